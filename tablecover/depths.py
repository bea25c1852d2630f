"""Depths of wires."""

from tablecover.cuts import all_cuts
from tablecover.ways import places


def depths(net, k):
    """The depths for k of all wires."""
    cuts = all_cuts(net, k)
    told = [0] * net[0]
    for gate in range(net[0], len(cuts)):
        # For a k below 2, which is beyond the bounds, there may be no cut: then the places stand for it.
        choices = cuts[gate] or (places(net, gate),)
        told.append(1 + min([max([told[wire] for wire in cut]) for cut in choices]))
    return tuple(told)
