"""Needless entries of a book, and the book without them."""

from truetouch.bookpairs import BookPair
from truetouch.books import Book


def needless(book):
    """The numbers of the entries each of which is needless, ascending."""
    return tuple([number for number in range(len(book)) if is_needless(book, number)])


def lean(book):
    """The book in which each entry that is needless in what is left by then has been left out."""
    left = Book(book.method, book.entries)
    number = 0
    while number < len(left):
        if is_needless(left, number):
            left = left.without(number)
        else:
            number += 1
    return left


def is_needless(book, number):
    """Whether the book without the entry with this number is alike to the book."""
    # The truth of a pair tells whether its books are alike.
    return bool(BookPair(book, book.without(number)))
