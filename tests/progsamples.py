"""Programs for the tests, and a plain run of them, which does not use what it tests."""

import itertools
import random

from tests.samples import rung, some_method
from truetouch.programs import Program

NAMES = ("k", "n", "call", "abcdefgh", "end", "x")


def some_script(chance, method, names, depth=0, room=None):
    """A body of some statements; as many of the names as are left are used for variables."""
    room = room or [9]
    body = []
    for _ in range(chance.choice((0, 1, 1, 2, 2, 3) if depth else (1, 2, 3))):
        if room[0] <= 0:
            break
        room[0] -= 1
        word = "call" if depth == 5 else chance.choice(("call", "call", "repeat", "until", "if"))
        bell = chance.randint(1, method.stage)
        places = tuple(sorted(chance.sample(range(1, method.stage + 1), chance.randint(1, method.stage - 1))))
        inner = [some_script(chance, method, names, depth + 1, room) for _ in range(2)] if word != "call" else ()
        if word == "call":
            body.append((word, "".join(chance.choice(method.letters) for _ in range(chance.randint(1, 3)))))
        elif word == "repeat":
            count = names.pop(0) if names and chance.random() < 0.7 else chance.choice((0, 1, 2, 3))
            body.append((word, count, inner[0]))
        elif word == "until":
            body.append((word, bell, places, inner[0]))
        else:
            body.append((word, bell, places, inner[0], inner[1]))
    return tuple(body)


def some_program(seed, variables=2):
    """A program over a small method, another one for each seed."""
    chance = random.Random(seed)
    method = some_method(seed)
    return Program(method, some_script(chance, method, list(NAMES[:variables])))


class Ended(Exception):
    """A run has ended with this word."""


class PlainRun:
    """A run that does all that is written, one after the other."""

    def __init__(self, program, values, most=10 ** 4):
        self.method = program.method
        self.values = values
        self.most = most
        self.rounds = tuple(range(1, program.method.stage + 1))
        self.row = self.rounds
        self.calling = ""
        self.word = "done"
        try:
            self.body(program.script)
        except Ended as ended:
            self.word = str(ended)

    def lead(self, letter):
        if len(self.calling) == self.most:
            raise Ended("many")
        self.calling += letter
        self.row = rung(self.method, letter, self.row)[1][-1]
        if self.row == self.rounds:
            raise Ended("round")

    def body(self, body):
        for word, *told in body:
            if word == "call":
                for letter in told[0]:
                    self.lead(letter)
            elif word == "repeat":
                for _ in range(self.values[told[0]] if isinstance(told[0], str) else told[0]):
                    self.body(told[1])
            elif word == "until":
                asked = []
                while self.row.index(told[0]) + 1 not in told[1]:
                    if self.row in asked:
                        raise Ended("endless")
                    asked.append(self.row)
                    self.body(told[2])
            else:
                self.body(told[2] if self.row.index(told[0]) + 1 in told[1] else told[3])


def all_values(names, most):
    """All values up to the most, those with the least sum first, and those of one sum as tuples."""
    rows = sorted(itertools.product(range(most + 1), repeat=len(names)), key=lambda row: (sum(row), row))
    return [dict(zip(names, row)) for row in rows]
