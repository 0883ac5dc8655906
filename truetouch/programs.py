"""Programs: what a conductor calls, with repeats, tests of places, and variables."""

from truetouch.errors import BadStatement, BadValue, TooLong, Twice, Unknown
from truetouch.forms import as_tuples, is_name, is_rank, is_some_ascending, is_tuple, is_tuple_of, is_within

MOST_CALLED = 40
MOST_COUNT = 99
MOST_BODIES = 5
MOST_STATEMENTS = 40


class Program:
    """A program over a method, with its script."""

    def __init__(self, method, script):
        if not is_tuple(script):
            raise BadStatement(-1)
        found = []
        gather_statements(method, script, 0, found)
        if len(found) > MOST_STATEMENTS:
            raise TooLong(len(found))
        self.method = method
        self.script = as_tuples(script)
        self._statements = as_tuples(found)
        self._variables = variables_of(self._statements)

    @property
    def variables(self):
        """The variables, in the order in which they are written."""
        return self._variables

    def statements(self):
        """All statements, one by one, in the order of their numbers."""
        for statement in self._statements:
            yield statement

    def __len__(self):
        return len(self._statements)

    def __eq__(self, other):
        return isinstance(other, Program) and self.method == other.method and self.script == other.script


def gather_statements(method, body, depth, found):
    """Adds the statements of a body that stands in so many others, each ahead of those in its bodies."""
    for thing in body:
        if depth > MOST_BODIES or not is_statement(thing, method):
            raise BadStatement(len(found))
        found.append(thing)
        for inner in bodies_of(thing):
            gather_statements(method, inner, depth + 1, found)


def is_statement(thing, method):
    """Whether it has the form of a statement in itself."""
    if not is_tuple_of(thing, 2, 5):
        return False
    if len(thing) == 2:
        return thing[0] == "call" and is_short_calling(thing[1], method)
    if not all([is_tuple(body) for body in bodies_of(thing)]):
        return False
    if len(thing) == 3:
        return thing[0] == "repeat" and (is_within(thing[1], 0, MOST_COUNT) or is_name(thing[1]))
    if thing[0] != ("until" if len(thing) == 4 else "if"):
        return False
    return is_within(thing[1], 1, method.stage) and is_some_ascending(thing[2], 1, method.stage)


def is_short_calling(thing, method):
    """Whether it is a calling of 1 to 40 letters of the method."""
    if not isinstance(thing, str) or not 1 <= len(thing) <= MOST_CALLED:
        return False
    return all([letter in method for letter in thing])


def bodies_of(statement):
    """The bodies of a statement: they stand behind the count, or behind the bell and the places."""
    return statement[2:] if len(statement) == 3 else statement[3:]


def variable_of(statement):
    """The variable that heads the statement, None if none does."""
    return statement[1] if statement[0] == "repeat" and isinstance(statement[1], str) else None


def variables_of(told):
    """The variables of these statements, in order."""
    names = []
    for statement in told:
        name = variable_of(statement)
        if name is not None:
            if name in names:
                raise Twice(name)
            names.append(name)
    return tuple(names)


def judge_values(program, values, most=None):
    """Raises the error that is due if these are no values from 0, up to the most if there is one."""
    for name in program.variables:
        told = values.get(name)
        if not is_rank(told) or (most is not None and told > most):
            raise BadValue(name)
    for name in values:
        if name not in program.variables:
            raise Unknown(name)
