"""Needed gates, each by a depth, laid one behind another from the greatest down.

Needs are a dict: the depth by which each needed gate is needed. Those from a bound on are laid.
"""

from tablecover.cuts import all_cuts
from tablecover.depths import depths_by


def with_deepest(cuts, told):
    """The cuts, each with the greatest of its wires' told depths."""
    return tuple((cut, max([told[wire] for wire in cut])) for cut in cuts)


def cut_choices(net, k):
    """For each wire its cuts for k, in order, each with the greatest depth of its wires."""
    cuts = all_cuts(net, k)
    told = depths_by(net, cuts)
    return tuple(with_deepest(own, told) for own in cuts)


def first_needs(net, depth):
    """The outs that are gates, each needed by the depth."""
    return {out: depth for out in net[2] if out >= net[0]}


def next_gate(needs, bound):
    """The greatest needed gate that is not laid, or None."""
    return max([gate for gate in needs if gate < bound], default=None)


def fitting_cuts(choices, gate, needs):
    """The gate's cuts, in order, whose wires all have depths below the one by which it is needed."""
    return [cut for cut, deepest in choices[gate] if deepest < needs[gate]]


def needs_with(net, needs, gate, cut):
    """The needs where the gate is laid by the cut."""
    by = needs[gate] - 1
    told = dict(needs)
    for wire in cut:
        if wire >= net[0]:
            told[wire] = min(by, told.get(wire, by))
    return told
