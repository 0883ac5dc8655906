"""The statements of a program by their numbers, with their bodies and the variables in them."""

from truetouch.programs import bodies_of, variable_of


class Outline:
    """A script in which each body is told by the numbers of its statements."""

    def __init__(self, script):
        self.told = []
        self.inner = []
        self.names_inside = []
        self.top = self.numbered(script)

    def numbered(self, body):
        """The numbers of the statements of a body, each ahead of those in its bodies."""
        numbers = []
        for statement in body:
            number = len(self.told)
            numbers.append(number)
            self.told.append(statement)
            self.inner.append(())
            self.names_inside.append(())
            inner = tuple([self.numbered(told) for told in bodies_of(statement)])
            self.inner[number] = inner
            self.names_inside[number] = tuple([name for told in inner for name in self.names_in(told)])
        return tuple(numbers)

    def names_in(self, numbers):
        """The variables in these statements, in order."""
        names = []
        for number in numbers:
            name = variable_of(self.told[number])
            if name is not None:
                names.append(name)
            names.extend(self.names_inside[number])
        return names
