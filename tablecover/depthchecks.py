"""The checker of papers of depths, whoever wrote them."""

from tablecover.nets import is_whole
from tablecover.ways import is_way


def is_entry(thing):
    """Whether the thing is a label and a tuple, as a paper has them for each gate."""
    if not isinstance(thing, tuple) or len(thing) != 2:
        return False
    label, ways = thing
    return is_whole(label) and label >= 1 and isinstance(ways, tuple)


def are_entries(net, thing):
    """Whether the thing is a tuple of an entry for each gate."""
    if not isinstance(thing, tuple) or len(thing) != len(net[1]):
        return False
    return all(is_entry(entry) for entry in thing)


def are_apart(one, other, labels, least):
    """Whether the two ways have only such wires in common whose labels are no less than the least."""
    return all(labels[wire] >= least for wire in one if wire in other)


def shows_label(net, k, gate, labels, ways):
    """Whether the ways, a tuple of anything, show the gate's label."""
    if labels[gate] == 1:
        return len(ways) == 0
    if len(ways) != k + 1 or not all(is_way(net, gate, way) for way in ways):
        return False
    least = labels[gate] - 1
    return all(are_apart(way, ways[later], labels, least)
               for at, way in enumerate(ways) for later in range(at + 1, len(ways)))


def depth_paper_holds(net, k, thing):
    """Whether the thing, anything, is a paper of depths for k."""
    if not are_entries(net, thing):
        return False
    labels = [0] * net[0] + [label for label, ways in thing]
    return all(shows_label(net, k, net[0] + at, labels, entry[1]) for at, entry in enumerate(thing))
