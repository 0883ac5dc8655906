"""Letters that can be spared, and the fewest letters with which all heads are reached."""

from truetouch.heads import Heads
from truetouch.methods import judge_letter
from truetouch.parts import all_parts, is_part
from truetouch.paths import least_words


def spare(method, letter):
    """The least calling without the letter that ends at its head move, None if there is none."""
    judge_letter(method, letter)
    # What is reached without the letter are heads, and these refuse to be too many.
    Heads(method)
    return words_with(method, method.letters.replace(letter, "")).get(method.head(letter))


def least_letters(method):
    """The strings of letters with which all heads are reached, and with no part of them."""
    many = len(Heads(method))
    found = []
    for part in all_parts(len(method.letters)):
        letters = "".join([method.letters[number - 1] for number in part])
        if not any([is_part(told, letters) for told in found]) and len(words_with(method, letters)) == many:
            found.append(letters)
    return tuple(found)


def words_with(method, letters):
    """The least callings of these letters that lead to each head that they reach."""
    return least_words(method.stage, [(letter, method.head(letter)) for letter in letters])
