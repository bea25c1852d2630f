"""The checker of papers of tables, whoever wrote them."""

from tablecover.needs import cut_choices, first_needs, fitting_cuts, needs_with, next_gate
from tablecover.nets import wires_in


def is_cases(thing):
    """Whether the thing is the word for cases and a tuple."""
    return isinstance(thing, tuple) and len(thing) == 2 and thing[0] == "cases" and isinstance(thing[1], tuple)


def shown_by(net, choices, needs, bound, thing):
    """How many tables the thing shows where these gates are needed and those from the bound on laid, or None."""
    if thing == ("count",):
        return len(needs)
    gate = next_gate(needs, bound)
    if gate is None or not is_cases(thing):
        return None
    cuts = fitting_cuts(choices, gate, needs)
    if len(thing[1]) != len(cuts):
        return None
    counts = []
    for cut, paper in zip(cuts, thing[1]):
        count = shown_by(net, choices, needs_with(net, needs, gate, cut), gate, paper)
        if count is None:
            return None
        counts.append(count)
    # There is no cut only where the depth is less than the outs', which is beyond the bounds.
    return min(counts, default=None)


def shown_count(net, k, depth, thing):
    """How many tables a cover for k of at most the depth has at least, as the thing, anything, shows it, or None."""
    return shown_by(net, cut_choices(net, k), first_needs(net, depth), wires_in(net), thing)
