"""Whether two nets do the same at each row."""

from tablecover.errors import NoMatch
from tablecover.nets import outs_at, row_of


def must_match(one, other):
    """Refuse two nets that do not match."""
    if one[0] != other[0]:
        raise NoMatch("not as many inputs")
    if len(one[2]) != len(other[2]):
        raise NoMatch("not as many outs")


def same_input(net, first, second):
    """Whether wires of two nets of as many inputs as this one are the same input."""
    return first == second and first < net[0]


def first_unlike(one, other):
    """The least number of a row at which the outs' worths of the two nets are unlike, or None."""
    must_match(one, other)
    for number in range(1 << one[0]):
        row = row_of(one, number)
        if outs_at(one, row) != outs_at(other, row):
            return number
    return None
