"""The checker of likenesses, whoever wrote them."""

from tablecover.alike import must_match, same_input
from tablecover.contents import content
from tablecover.cuts import rises, tells
from tablecover.nets import is_below, wires_in

MOST_STEPS = 60
MOST_PAIRS = 8


def is_pair(one, other, thing):
    """Whether the thing is a wire of the first net and one of the second."""
    if not isinstance(thing, tuple) or len(thing) != 2:
        return False
    first, second = thing
    return is_below(first, wires_in(one)) and is_below(second, wires_in(other))


def are_unlike(wires):
    """Whether no wire stands twice among the wires."""
    return len(set(wires)) == len(wires)


def are_pairs(one, other, thing):
    """Whether the thing is a tuple of pairs as a step has them."""
    if not isinstance(thing, tuple) or not 1 <= len(thing) <= MOST_PAIRS:
        return False
    if not all(is_pair(one, other, pair) for pair in thing) or not rises(thing):
        return False
    return are_unlike([pair[0] for pair in thing]) and are_unlike([pair[1] for pair in thing])


def is_likeness_step(one, other, thing):
    """Whether the thing is made as a step is; it may hold or not."""
    if not isinstance(thing, tuple) or len(thing) != 3:
        return False
    return is_pair(one, other, thing[:2]) and are_pairs(one, other, thing[2])


def is_shown(net, pair, shown):
    """Whether the wires of the pair are the same input, or the pair is among the shown ones."""
    return same_input(net, pair[0], pair[1]) or pair in shown


def step_holds(one, other, step, shown):
    """Whether the step holds where earlier steps have shown these pairs."""
    first, second, pairs = step
    if not all(is_shown(one, pair, shown) for pair in pairs):
        return False
    firsts = [pair[0] for pair in pairs]
    seconds = [pair[1] for pair in pairs]
    if not tells(one, first, firsts) or not tells(other, second, seconds):
        return False
    return content(one, first, firsts) == content(other, second, seconds)


def likeness_holds(one, other, thing):
    """Whether the thing, anything, is a likeness of the two nets that holds."""
    must_match(one, other)
    if not isinstance(thing, tuple) or len(thing) > MOST_STEPS:
        return False
    shown = {}
    for step in thing:
        if not is_likeness_step(one, other, step) or not step_holds(one, other, step, shown):
            return False
        shown[step[:2]] = True
    return all(is_shown(one, pair, shown) for pair in zip(one[2], other[2]))
