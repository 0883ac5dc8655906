"""Whether two books bear the same callings."""

from truetouch.books import GREATEST_STATE, HOME_STATE, followers_of
from truetouch.errors import TooMany, Unlike
from truetouch.forms import is_some_ascending, is_tuple_of
from truetouch.rows import is_row
from truetouch.tables import first_wrong, rows_of

MOST_SITUATIONS = 400


class BookPair:
    """The verdict whether two books are alike, with their situations, or the least calling that only one bears."""

    def __init__(self, first, second):
        judge_letters(first, second)
        situations, breach = situations_reached(first, second)
        self.calling, self.bearer = (None, None) if breach is None else breach
        self.table = tuple(situations) if breach is None else None
        self._rows = tuple(situations) if breach is None else ()

    def __bool__(self):
        return self.calling is None

    def __len__(self):
        return len(self._rows)

    def __iter__(self):
        return iter(self._rows)


def judge_books(first, second, table):
    """Judges a table of situations."""
    judge_letters(first, second)
    rows = [situation_told(row, first, second) for row in rows_of(table)]
    told = {row: True for row in rows if row is not None}
    if first_situation(first, second) not in told:
        return -1
    return first_wrong([row is not None and is_closed(first, second, row, told) for row in rows])


def judge_letters(first, second):
    """Raises the error that is due if the methods of the books do not have the same letters."""
    if first.method.letters != second.method.letters:
        raise Unlike("letters")


def first_situation(first, second):
    """The situation of the empty calling."""
    return (first.beginning[1], (0,), second.beginning[1], (0,))


def situations_reached(first, second):
    """The situations in which both books have states, in order, and the first breach.

    A breach is the least calling that only one of the books bears, and which one; None if there is none.
    """
    situations = [first_situation(first, second)]
    callings = {situations[0]: ""}
    breach = None
    at = 0
    while at < len(situations):
        situation = situations[at]
        led, other_led = led_in_both(first, second, situation)
        for letter in first.method.letters:
            calling = callings[situation] + letter
            if letter in led and letter in other_led:
                onward = led[letter] + other_led[letter]
                if onward not in callings:
                    if len(situations) == MOST_SITUATIONS:
                        raise TooMany("pair")
                    callings[onward] = calling
                    situations.append(onward)
            elif breach is None and (letter in led or letter in other_led):
                breach = (calling, 0 if letter in led else 1)
        at += 1
    return situations, breach


def led_in_both(first, second, situation):
    """What the letters lead to from the situation, in each of the books."""
    row, states, other_row, other_states = situation
    return led_by(first, row, states), led_by(second, other_row, other_states)


def led_by(book, row, states):
    """For each letter by which the book goes on from one of these states, the row and the states behind."""
    led = {}
    for letter, (state, onward) in sorted({pair for state in states for pair in followers_of(book, state, row)}):
        told = led[letter][1] if letter in led else ()
        led[letter] = (onward, told + (state,))
    return led


def is_closed(first, second, situation, told):
    """Whether for each letter no book goes on, or both do and what is behind is told."""
    led, other_led = led_in_both(first, second, situation)
    for letter in first.method.letters:
        if letter in led and letter in other_led:
            if led[letter] + other_led[letter] not in told:
                return False
        elif letter in led or letter in other_led:
            return False
    return True


def situation_told(thing, first, second):
    """The situation that a row of a table tells, None if it does not have this form."""
    if not is_tuple_of(thing, 4, 4):
        return None
    row, states, other_row, other_states = thing
    if not is_row(row, first.method.stage) or not is_row(other_row, second.method.stage):
        return None
    if not all([is_some_ascending(told, HOME_STATE, GREATEST_STATE) for told in (states, other_states)]):
        return None
    return (tuple(row), tuple(states), tuple(other_row), tuple(other_states))
