"""The mirrored and the reversed method."""

from truetouch.methods import Method


def mirrored_method(method):
    """The method with its places counted from the other end."""
    calls = [(letter, at, mirrored_lead(told, method.stage)) for letter, at, told in method.calls]
    return Method(method.stage, mirrored_lead(method.plain, method.stage), calls)


def reversed_method(method):
    """The method with the changes of each lead in reverse order."""
    calls = [(letter, method.size - at - len(told), told[::-1]) for letter, at, told in method.calls]
    return Method(method.stage, method.plain[::-1], calls)


def mirrored_lead(lead, stage):
    """The changes with their kept places counted from the other end."""
    return tuple([tuple([stage + 1 - kept for kept in change[::-1]]) for change in lead])
