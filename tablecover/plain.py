"""The plain cover: each gate by its choice."""

from tablecover.covers import leaned
from tablecover.cuts import all_cuts
from tablecover.depths import depths_by, one_deeper


def chosen(cuts, told):
    """Of a gate's cuts the one by which it is least deep, then the one with the fewest wires, then the first."""
    return min(cuts, key=lambda cut: (one_deeper(told, cut), len(cut), cut))


def choice(net, gate, k):
    """The choice of the gate for k."""
    cuts = all_cuts(net, k)
    return chosen(cuts[gate], depths_by(net, cuts))


def all_choices(net, cuts):
    """A table for each gate, rising, by its choice, cuts being those of each wire."""
    told = depths_by(net, cuts)
    return tuple((gate, chosen(cuts[gate], told)) for gate in range(net[0], len(cuts)))


def plain_by(net, cuts):
    """The plain cover, cuts being those of each wire."""
    return leaned(net, all_choices(net, cuts))


def plain_cover(net, k):
    """The choices of the outs that are gates, and of all gates that are needed then."""
    return plain_by(net, all_cuts(net, k))
