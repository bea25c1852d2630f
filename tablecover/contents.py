"""Contents of tables: the worths of a wire by the worths of wires that tell it."""

from tablecover.cuts import inside
from tablecover.nets import gate_worth


def worth_by(net, wire, wires, gates, number):
    """The wire's worth where wire j of the wires has the worth of bit j of the number; gates lie between them."""
    told = {held: (number >> at) & 1 for at, held in enumerate(wires)}
    for gate in gates:
        kind, one, other = net[1][gate - net[0]]
        told[gate] = gate_worth(kind, told[one], told[other])
    return told[wire]


def content(net, wire, wires):
    """The content of the wire by the wires, which tell it."""
    # None of these gates is one of the wires, so what is held of a wire stays, whatever would be made of it.
    gates = inside(net, wire, wires)
    return tuple(worth_by(net, wire, wires, gates, number) for number in range(1 << len(wires)))


def is_idle(content, place):
    """Whether the place makes no difference in the content."""
    return all(worth == content[number ^ (1 << place)] for number, worth in enumerate(content))


def idle(content):
    """The idle places of the content, rising."""
    places = len(content).bit_length() - 1
    return tuple(place for place in range(places) if is_idle(content, place))


def without(content, place):
    """The content without an idle place; the places behind it move up by one."""
    return tuple(worth for number, worth in enumerate(content) if not (number >> place) & 1)
