"""The lines of a program."""

from truetouch.calltext import fold_calling
from truetouch.programs import MOST_COUNT, Program, bodies_of
from truetouch.wordlines import CLOSING, LineReader, write_places

STATEMENT_WORDS = ("call", "repeat", "until", "if")
# A script ends with the lines or with a word of its own.
OPEN_SCRIPT = ()
CLOSED_SCRIPT = ("script",)


def write_program(program):
    """The lines of a program."""
    return tuple(body_lines(program.script))


def body_lines(body):
    """The lines of the statements of a body."""
    lines = []
    for statement in body:
        lines.extend(statement_lines(statement))
    return lines


def statement_lines(statement):
    """The lines of a statement, with those of its bodies."""
    word = statement[0]
    if word == "call":
        return [f"call {fold_calling(statement[1])}"]
    first, *others = bodies_of(statement)
    head = str(statement[1]) if word == "repeat" else f"{statement[1]} {write_places(statement[2])}"
    lines = [f"{word} {head}"] + body_lines(first)
    for body in others:
        if len(body) > 0:
            lines = lines + ["else"] + body_lines(body)
    return lines + [CLOSING]


def read_program(method, lines):
    """The program over the method that is written in the lines."""
    return Program(method, script_told(LineReader(lines), False))


class OpenStatement:
    """A statement whose end has not been read, with what stands in its bodies so far."""

    def __init__(self, told):
        self.told = told
        self.bodies = [[]]

    def firsts(self):
        """The words with which the next line can begin."""
        if self.told == OPEN_SCRIPT:
            return STATEMENT_WORDS
        if len(self.bodies) > 1 and len(self.bodies[1]) == 0:
            # Behind an else stands at least one statement.
            return STATEMENT_WORDS
        if self.told[0] == "if" and len(self.bodies) == 1:
            return STATEMENT_WORDS + ("else", CLOSING)
        return STATEMENT_WORDS + (CLOSING,)

    def whole(self):
        """The statement, when all of it has been read."""
        bodies = tuple([tuple(body) for body in self.bodies])
        if self.told[0] == "if" and len(bodies) == 1:
            return self.told + bodies + ((),)
        return self.told + bodies


def script_told(reader, is_closed):
    """The statements that are written in the next lines, up to their end."""
    script = OpenStatement(CLOSED_SCRIPT if is_closed else OPEN_SCRIPT)
    opened = [script]
    while opened and (is_closed or len(opened) > 1 or reader.has_more()):
        last = opened[-1]
        firsts = last.firsts()
        word = reader.begin(*firsts)
        if word == "else":
            last.bodies.append([])
        elif word == CLOSING:
            opened.pop()
            if opened:
                opened[-1].bodies[-1].append(last.whole())
        elif word == "call":
            last.bodies[-1].append((word, reader.take_calling()))
        else:
            opened.append(OpenStatement(read_head(reader, word)))
        reader.finish()
    return tuple(script.bodies[0])


def read_head(reader, word):
    """What stands ahead of the bodies of a statement that begins with this word."""
    if word == "repeat":
        return (word, reader.take_count(MOST_COUNT))
    bell = reader.take_bell()
    return (word, bell, reader.take_places())
