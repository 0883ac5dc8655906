"""Parts of a whole whose things are numbered from 1."""


def all_parts(many):
    """All ascending tuples of numbers up to this one, ordered by their lengths, then as tuples."""
    told = [()]
    longest = told
    for _ in range(many):
        longest = [part + (number,) for part in longest for number in range(1, many + 1)
                   if part == () or part[-1] < number]
        told = told + longest
    return told


def is_part(part, whole):
    """Whether all of this is in the whole."""
    return all([thing in whole for thing in part])
