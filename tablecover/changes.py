"""Changes of nets at one place.

Each change is told by a word. The function of a word makes what comes of the change, which may be no net; it tells None
where the thing is no such change.
"""

from tablecover.errors import NoChange
from tablecover.nets import has_gate, is_below, is_net


def with_gate(net, gate, held):
    """The net with another gate at this wire."""
    many, gates, outs = net
    at = gate - many
    return (many, gates[:at] + (held,) + gates[at + 1:], outs)


def kind_changed(net, change):
    """A gate has another kind."""
    if len(change) != 3 or not has_gate(net, change[1]):
        return None
    gate, kind = change[1:]
    return with_gate(net, gate, (kind,) + net[1][gate - net[0]][1:])


def lead_changed(net, change):
    """A gate's one or other is another wire."""
    if len(change) != 4 or not has_gate(net, change[1]) or not is_below(change[2], 2):
        return None
    gate, side, wire = change[1:]
    kind, one, other = net[1][gate - net[0]]
    return with_gate(net, gate, (kind, wire, other) if side == 0 else (kind, one, wire))


def gate_added(net, change):
    """There is a gate more, behind all."""
    many, gates, outs = net
    return (many, gates + (change[1:],), outs)


def gate_taken(net, change):
    """The last gate goes."""
    many, gates, outs = net
    if len(change) != 1 or len(gates) == 0:
        return None
    return (many, gates[:-1], outs)


def outs_changed(net, change):
    """There are other outs."""
    if len(change) != 2:
        return None
    many, gates, outs = net
    return (many, gates, change[1])


CHANGES = {
    "kind": kind_changed,
    "lead": lead_changed,
    "more": gate_added,
    "less": gate_taken,
    "outs": outs_changed,
}


def has_word(thing):
    """Whether the thing is a tuple that begins with the word of a change."""
    if not isinstance(thing, tuple) or len(thing) == 0:
        return False
    return isinstance(thing[0], str) and thing[0] in CHANGES


def changed(net, change):
    """The net that comes of the change; NoChange where the change, anything, is none, or would make no net."""
    if not has_word(change):
        raise NoChange("no change has such a form")
    action = CHANGES[change[0]]
    told = action(net, change)
    if not is_net(told):
        raise NoChange("no net comes of it")
    return told
