"""The lines of a book."""

from truetouch.books import GREATEST_STATE, Book
from truetouch.wordlines import LineReader, write_places


def write_book(book):
    """The lines of a book."""
    return tuple([" ".join(entry_words(entry)) for entry in book])


def entry_words(entry):
    """The words of the line of an entry."""
    state, wants, letter, onward = entry
    words = ["entry", str(state), letter, str(onward)]
    for bell, places in wants:
        words.append(str(bell))
        words.append(write_places(places))
    return words


def read_book(method, lines):
    """The book over the method that is written in the lines."""
    return Book(method, entries_told(LineReader(lines), False))


def entries_told(reader, is_closed):
    """The entries that are written in the next lines, up to their end."""
    entries = []
    while reader.goes_on("entry", is_closed):
        entries.append(take_entry(reader))
    return entries


def take_entry(reader):
    """The entry that is written in the rest of the line."""
    state = reader.take_number(0, GREATEST_STATE)
    letter = reader.take_letter()
    onward = reader.take_number(0, GREATEST_STATE)
    wants = []
    while reader.has_word():
        bell = reader.take_bell()
        wants.append((bell, reader.take_places()))
    return (state, wants, letter, onward)
