"""Depths of wires."""

from tablecover.cuts import all_cuts


def one_deeper(told, wires):
    """One more than the greatest of the wires' told depths."""
    return 1 + max([told[wire] for wire in wires])


def depths_by(net, cuts):
    """The depths of all wires, cuts being those of each wire."""
    told = [0] * net[0]
    for gate in range(net[0], len(cuts)):
        told.append(min([one_deeper(told, cut) for cut in cuts[gate]]))
    return tuple(told)


def depths(net, k):
    """The depths for k of all wires."""
    return depths_by(net, all_cuts(net, k))
