"""Ways to wires, and cones."""

from tablecover.nets import is_below, wires_in


def places(net, gate):
    """The one and the other of the gate."""
    kind, one, other = net[1][gate - net[0]]
    return (one, other)


def is_step(net, ahead, wire):
    """Whether a way may go on from the wire ahead to this wire."""
    return wire >= net[0] and ahead in places(net, wire)


def is_way(net, wire, thing):
    """Whether the thing, anything, is a way to the wire."""
    if not isinstance(thing, tuple) or len(thing) == 0:
        return False
    count = wires_in(net)
    if not all(is_below(step, count) for step in thing):
        return False
    if thing[0] >= net[0] or thing[-1] != wire:
        return False
    return all(is_step(net, ahead, step) for ahead, step in zip(thing, thing[1:]))


def reached(net, wire, stops):
    """The wires, rising, from which the wire is reached along places without any of the stops on the way."""
    marks = [False] * wires_in(net)
    marks[wire] = wire not in stops
    # Places have lesser numbers than their gate, so one walk downwards meets each wire behind all that take it.
    for gate in range(wire, net[0] - 1, -1):
        if marks[gate]:
            for place in places(net, gate):
                marks[place] = place not in stops
    return tuple(at for at, mark in enumerate(marks) if mark)


def cone(net, wire):
    """All wires that stand on ways to the wire, rising."""
    return reached(net, wire, ())
