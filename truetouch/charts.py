"""A program written out: its points and tests, with what comes behind each of them."""

from truetouch.programs import bodies_of


class Point:
    """A letter that is called, the number of this point, and what comes behind it."""

    def __init__(self, letter, number, onward):
        self.letter = letter
        self.number = number
        self.onward = onward


class Fork:
    """A test, and what comes behind it if the bell stands in one of the places, and if not."""

    def __init__(self, bell, places, inside, outside):
        self.bell = bell
        self.places = places
        self.inside = inside
        self.outside = outside
        self.is_until = False


class Chart:
    """The points and forks of a script, by their numbers; behind the last one comes the end, which is None."""

    def __init__(self, script):
        self.laid = [None]
        self.starts = {}
        self.left = points_in(script)
        # Written out backwards, each statement is laid when what comes behind it is known.
        self.starts[0] = self.lay_body(script, 0)

    def lay(self, node):
        """Adds a point or a fork, and tells its number."""
        self.laid.append(node)
        return len(self.laid) - 1

    def lay_body(self, body, onward):
        """Lays the statements of a body, and tells with what it begins."""
        for statement in body[::-1]:
            onward = self.lay_statement(statement, onward)
        return onward

    def lay_statement(self, statement, onward):
        """Lays a statement, and tells with what it begins."""
        word = statement[0]
        if word == "call":
            return self.lay_call(statement[1], onward)
        if word == "repeat":
            times = statement[1] if points_in(statement[2]) > 0 else min(statement[1], 1)
            for _ in range(times):
                onward = self.lay_body(statement[2], onward)
            return onward
        fork = Fork(statement[1], statement[2], onward, onward)
        if word == "until":
            fork.is_until = True
            number = self.lay(fork)
            fork.outside = self.lay_body(statement[3], number)
            return number
        fork.outside = self.lay_body(statement[4], onward)
        fork.inside = self.lay_body(statement[3], onward)
        return self.lay(fork)

    def lay_call(self, calling, onward):
        """Lays the points of a calling, and tells with what it begins."""
        for letter in calling[::-1]:
            self.starts[self.left] = onward
            onward = self.lay(Point(letter, self.left, onward))
            self.left -= 1
        return onward


def points_in(body):
    """How many points a body has when it is written out."""
    return sum([points_of(statement) for statement in body])


def points_of(statement):
    """How many points a statement has when it is written out."""
    if statement[0] == "call":
        return len(statement[1])
    inner = sum([points_in(body) for body in bodies_of(statement)])
    return statement[1] * inner if statement[0] == "repeat" else inner


def bells_ahead(laid):
    """For each node from which a point can be come to, the bells tested on the ways to such, ascending."""
    found = {number: () for number, node in enumerate(laid) if isinstance(node, Point)}
    grown = True
    while grown:
        grown = False
        for number, node in enumerate(laid):
            if isinstance(node, Fork):
                told = bells_of_fork(node, found)
                if told is not None and found.get(number) != told:
                    found[number] = told
                    grown = True
    return found


def bells_of_fork(fork, found):
    """The bells tested from a fork on, from those told for what comes behind; None if no point comes."""
    onward = [found[number] for number in (fork.inside, fork.outside) if number in found]
    if not onward:
        return None
    return tuple(sorted(set([fork.bell] + [bell for bells in onward for bell in bells])))
