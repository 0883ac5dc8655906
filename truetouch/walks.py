"""How the statements of a program are gone through from rounds."""

from truetouch.moves import compose, rounds_of


class Walk:
    """A run of a program for some values: the letters of its leads, and at last its word."""

    def __init__(self, program, values):
        self.method = program.method
        self.script = program.script
        self.given = values
        self.start = rounds_of(program.method.stage)
        self.row = self.start
        self.rung = []
        self.ending = None

    def ring(self, letter):
        """Rings a lead; the run ends if it brings the head to rounds."""
        self.row = compose(self.row, self.method.head(letter))
        self.rung.append(letter)
        if self.row == self.start:
            self.ending = "round"

    def go_through(self):
        """Goes through the script."""
        self.do_body(self.script)
        if self.ending is None:
            self.ending = "done"

    def do_body(self, body):
        """Goes through the statements of a body, until the run ends."""
        for statement in body:
            if self.ending is None:
                self.do_statement(statement)

    def do_statement(self, statement):
        """Goes through a statement."""
        word = statement[0]
        if word == "call":
            self.do_call(statement[1])
        elif word == "repeat":
            self.do_repeat(statement[1], statement[2])
        elif word == "until":
            self.do_until(statement)
        elif self.is_at(statement[1], statement[2]):
            self.do_body(statement[3])
        else:
            self.do_body(statement[4])

    def do_call(self, calling):
        """Rings the leads of a calling."""
        for letter in calling:
            if self.ending is None:
                self.ring(letter)

    def do_repeat(self, count, body):
        """Goes through a body so many times."""
        times = self.given[count] if isinstance(count, str) else count
        before = -1
        # A pass without a lead leaves everything as it is, and so do all that follow.
        while times > 0 and self.ending is None and len(self.rung) > before:
            before = len(self.rung)
            self.do_body(body)
            times -= 1

    def do_until(self, statement):
        """Goes through a body until the bell stands in one of the places."""
        _, bell, places, body = statement
        asked = {}
        while self.ending is None and not self.is_at(bell, places):
            if self.row in asked:
                self.ending = "endless"
            else:
                asked[self.row] = True
                self.do_body(body)

    def is_at(self, bell, places):
        """Whether the bell stands in one of the places at the head."""
        return self.row.index(bell) + 1 in places
