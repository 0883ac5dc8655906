"""The lines of a method."""

from truetouch.foldlead import fold_lead
from truetouch.forms import GREATEST_STAGE, LEAST_STAGE
from truetouch.methods import MOST_CHANGES, Method
from truetouch.wordlines import LineReader


def write_method(method):
    """The lines of a method, with folded lead texts."""
    lines = [f"method {method.stage} {fold_lead(method.plain)}"]
    for letter, at, told in method.calls:
        lines.append(f"call {letter} {at} {fold_lead(told)}")
    return tuple(lines)


def read_method(lines):
    """The method that is written in the lines."""
    stage, plain, calls = method_told(LineReader(lines), False)
    return Method(stage, plain, calls)


def method_told(reader, is_closed):
    """The stage, the plain lead and the calls that are written in the next lines, up to their end."""
    reader.begin("method")
    stage = reader.take_number(LEAST_STAGE, GREATEST_STAGE)
    plain = reader.take_lead(stage)
    reader.finish()
    calls = []
    while reader.goes_on("call", is_closed):
        calls.append(take_call(reader, stage))
    return stage, plain, calls


def take_call(reader, stage):
    """The call that is written in the rest of the line."""
    letter = reader.take_letter(Method.PLAIN)
    at = reader.take_number(0, MOST_CHANGES - 1)
    told = reader.take_lead(stage)
    reader.finish()
    return (letter, at, told)
