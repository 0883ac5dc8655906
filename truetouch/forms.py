"""Tells of things that are passed whether they have the plain forms that the document names."""

LEAST_STAGE = 3
GREATEST_STAGE = 8
LONGEST_NAME = 8
DIGITS = "0123456789"


def is_integer(thing):
    """Whether it is an integer; True and False are none."""
    return isinstance(thing, int) and not isinstance(thing, bool)


def is_within(thing, low, high):
    """Whether it is an integer from low to high."""
    return is_integer(thing) and low <= thing <= high


def is_rank(thing):
    """Whether it is an integer from 0."""
    return is_integer(thing) and thing >= 0


def is_stage(thing):
    """Whether it is a number of bells."""
    return is_within(thing, LEAST_STAGE, GREATEST_STAGE)


def is_tuple(thing):
    """Whether it is a tuple, or a list, which is taken for one."""
    return isinstance(thing, (tuple, list))


def is_tuple_of(thing, low, high):
    """Whether it is a tuple of low to high things."""
    return is_tuple(thing) and low <= len(thing) <= high


def is_letter(thing):
    """Whether it is one letter from a to z."""
    return isinstance(thing, str) and len(thing) == 1 and "a" <= thing <= "z"


def is_name(thing):
    """Whether it is a string of 1 to 8 letters from a to z."""
    return isinstance(thing, str) and 1 <= len(thing) <= LONGEST_NAME and all([is_letter(sign) for sign in thing])


def is_ascending(thing, low, high):
    """Whether it is a tuple of integers from low to high, each greater than the one before."""
    if not is_tuple(thing):
        return False
    before = low - 1
    for number in thing:
        if not is_within(number, before + 1, high):
            return False
        before = number
    return True


def is_some_ascending(thing, low, high):
    """Whether it is such an ascending tuple, of at least one integer."""
    return is_ascending(thing, low, high) and len(thing) > 0


def as_tuples(thing):
    """The same thing with tuples in the place of all lists."""
    if not is_tuple(thing):
        return thing
    return tuple([as_tuples(part) for part in thing])


def number_told(digits, low, high):
    """The number that the digits tell, None if it has a leading zero or is out of its bounds."""
    if digits == "" or not all([digit in DIGITS for digit in digits]):
        return None
    if digits[0] == "0" and digits != "0":
        return None
    number = int(digits)
    return number if low <= number <= high else None
