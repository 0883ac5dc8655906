"""The book of a program without variables."""

from truetouch.books import GREATEST_STATE, MOST_ENTRIES, Book
from truetouch.charts import Chart, Point, bells_ahead, points_in
from truetouch.errors import HasVariable, TooHeavy, TooMany
from truetouch.moves import rounds_of


def book_of(program):
    """The book that bears just the beginnings of what the program calls."""
    if len(program.variables) > 0:
        raise HasVariable(program.variables[0])
    points = points_in(program.script)
    if points > GREATEST_STATE:
        raise TooHeavy(points)
    chart = Chart(program.script)
    ways = Ways(chart, program.method.stage)
    for state in range(points + 1):
        ways.go_on_from(state, chart.starts[state])
    return Book(program.method, list(ways.entries))


class Ways:
    """The ways from each state of a chart to the next points, and the entries that they make."""

    def __init__(self, chart, stage):
        self.laid = chart.laid
        self.bells = bells_ahead(chart.laid)
        self.places = rounds_of(stage)
        self.entries = {}

    def go_on_from(self, state, start):
        """Goes through the ways from a state, whose next node is the start."""
        # A mark is None on the way in; on the way out it is the number of entries there were then.
        waiting = [(start, tuple([self.places for _ in self.places]), (), None)]
        lost = {}
        while waiting:
            number, left, passed, mark = waiting.pop()
            key = (number, self.tested(number, left), passed)
            if mark is not None:
                # Where no way has made an entry, none will for the same places of the bells tested ahead.
                if len(self.entries) == mark:
                    lost[key] = True
            elif number in self.bells and number not in passed and key not in lost:
                if isinstance(self.laid[number], Point):
                    self.add_entry(state, left, self.laid[number])
                else:
                    waiting.append((number, left, passed, len(self.entries)))
                    waiting.extend(self.ways_on(number, left, passed))

    def tested(self, number, left):
        """The places left to the bells that are tested from this node on."""
        return tuple([left[bell - 1] for bell in self.bells.get(number, ())])

    def ways_on(self, number, left, passed):
        """The two ways on from a fork, less those on which its bell has no place left; the first comes last."""
        fork = self.laid[number]
        seen = passed + (number,) if fork.is_until else passed
        inside = tuple([place for place in left[fork.bell - 1] if place in fork.places])
        outside = tuple([place for place in left[fork.bell - 1] if place not in fork.places])
        return [(onward, left[:fork.bell - 1] + (places,) + left[fork.bell:], seen, None)
                for onward, places in ((fork.outside, outside), (fork.inside, inside)) if len(places) > 0]

    def add_entry(self, state, left, point):
        """Adds the entry of a way that has come to a point."""
        wants = tuple([(at + 1, places) for at, places in enumerate(left) if places != self.places])
        self.entries[state, wants, point.letter, point.number] = True
        if len(self.entries) > MOST_ENTRIES:
            raise TooMany("entry")
