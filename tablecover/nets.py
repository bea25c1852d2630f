"""Nets of gates, their rows and their worths."""

MOST_INPUTS = 8
MOST_GATES = 16
MOST_OUTS = 8
KINDS = 16


def is_whole(thing):
    """Whether the thing is a whole number; a truth is none, though Python takes it for an int."""
    return isinstance(thing, int) and not isinstance(thing, bool)


def is_below(thing, bound):
    """Whether the thing is a whole number from 0 to below the bound."""
    return is_whole(thing) and 0 <= thing < bound


def is_many(thing):
    """Whether the thing is a number of inputs that a net can have."""
    return is_whole(thing) and 1 <= thing <= MOST_INPUTS


def is_gate(thing, wire):
    """Whether the thing can be the gate that is this wire."""
    if not isinstance(thing, tuple) or len(thing) != 3:
        return False
    kind, one, other = thing
    return is_below(kind, KINDS) and is_below(one, wire) and is_below(other, wire)


def are_gates(thing, many):
    """Whether the thing can be the gates of a net of so many inputs."""
    if not isinstance(thing, tuple) or len(thing) > MOST_GATES:
        return False
    return all(is_gate(gate, many + at) for at, gate in enumerate(thing))


def are_outs(thing, count):
    """Whether the thing can be the outs of a net of so many wires."""
    if not isinstance(thing, tuple) or not 1 <= len(thing) <= MOST_OUTS:
        return False
    return all(is_below(out, count) for out in thing)


def is_net(thing):
    """Whether the thing, anything, is a net."""
    if not isinstance(thing, tuple) or len(thing) != 3:
        return False
    many, gates, outs = thing
    return is_many(many) and are_gates(gates, many) and are_outs(outs, many + len(gates))


def wires_in(net):
    """How many wires the net has."""
    return net[0] + len(net[1])


def has_gate(net, thing):
    """Whether the thing, anything, is a gate of the net."""
    return is_below(thing, wires_in(net)) and thing >= net[0]


def row_of(net, number):
    """The row of inputs that has this number."""
    return tuple((number >> at) & 1 for at in range(net[0]))


def gate_worth(kind, first, second):
    """The worth of a gate of this kind at these worths of its one and its other."""
    return (kind >> (first + 2 * second)) & 1


def worths(net, row):
    """The worths of all wires at the row."""
    told = list(row)
    for kind, one, other in net[1]:
        told.append(gate_worth(kind, told[one], told[other]))
    return tuple(told)


def outs_at(net, row):
    """The worths of the outs at the row."""
    told = worths(net, row)
    return tuple(told[out] for out in net[2])
