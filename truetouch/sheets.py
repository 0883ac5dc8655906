"""Sheets of callings: the calls alone, each told by the place of one bell."""

from truetouch.callings import MOST_LETTERS, heads_rung, judge_calling
from truetouch.errors import BadBell, BadSheet, TooLong
from truetouch.forms import is_tuple, is_tuple_of, is_within
from truetouch.moves import rounds_of

MOST_PASSES = 400


def write_sheet(method, bell, calling):
    """The sheet of a calling for the bell."""
    if not is_within(bell, 1, method.stage):
        raise BadBell(bell)
    judge_calling(calling, method)
    heads = heads_rung(method, calling, rounds_of(method.stage))
    calls = []
    passed = []
    for head, letter in zip(heads, calling):
        place = head.index(bell) + 1
        if letter == method.PLAIN:
            passed.append(place)
        else:
            calls.append((place, passed.count(place), letter))
            passed = []
    return (tuple(calls), len(passed))


def read_sheet(method, bell, sheet):
    """The calling that a sheet for the bell tells."""
    if not is_within(bell, 1, method.stage):
        raise BadBell(bell)
    if not is_tuple_of(sheet, 2, 2) or not is_tuple(sheet[0]) or not is_within(sheet[1], 0, MOST_PASSES):
        raise BadSheet(-1)
    calls, tail = sheet
    place = bell
    runs = []
    for number, call in enumerate(calls):
        plain = plain_leads(method, place, call) if is_call(call, method) else None
        if plain is None:
            raise BadSheet(number)
        runs.append((plain, call[2]))
        place = place_behind(method, call[2], call[0])
    many = sum([plain + 1 for plain, _ in runs]) + tail
    if many > MOST_LETTERS:
        raise TooLong(many)
    return "".join([method.PLAIN * plain + letter for plain, letter in runs]) + method.PLAIN * tail


def is_call(thing, method):
    """Whether it is a tuple of a place, a number of passes and a letter other than the plain one."""
    if not is_tuple_of(thing, 3, 3):
        return False
    place, passes, letter = thing
    if not is_within(place, 1, method.stage) or not is_within(passes, 0, MOST_PASSES):
        return False
    return letter in method and letter != method.PLAIN


def plain_leads(method, place, call):
    """How many plain leads bring the bell from the place to the call, None if none do."""
    course = plain_course(method, place)
    goal, passes, _ = call
    return course.index(goal) + passes * len(course) if goal in course else None


def plain_course(method, place):
    """The places through which plain leads bring the bell, from this one on."""
    course = [place]
    onward = place_behind(method, method.PLAIN, place)
    while onward != place:
        course.append(onward)
        onward = place_behind(method, method.PLAIN, onward)
    return course


def place_behind(method, letter, place):
    """The place to which the lead of the letter brings the bell in this place."""
    return method.head(letter).index(place) + 1
