"""Likenesses: papers that two nets do the same."""

from tablecover.alike import first_unlike, same_input


def likeness(one, other):
    """A likeness of the two nets, or None where they are unlike at some row."""
    if first_unlike(one, other) is not None:
        return None
    # There are at most eight inputs, so all of them make the pairs of a step, and they tell every wire.
    inputs = tuple((wire, wire) for wire in range(one[0]))
    steps = {}
    for first, second in zip(one[2], other[2]):
        if not same_input(one, first, second):
            steps[(first, second, inputs)] = True
    return tuple(steps)
