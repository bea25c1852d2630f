"""Covers: tables, each a gate and a cut of it, that tell the outs of a net."""

from tablecover.cuts import inside, is_cut, rises
from tablecover.depths import one_deeper
from tablecover.nets import has_gate


def is_table(net, k, thing):
    """Whether the thing is a gate with a cut of it of at most k wires."""
    if not isinstance(thing, tuple) or len(thing) != 2:
        return False
    gate, cut = thing
    return has_gate(net, gate) and is_cut(net, gate, cut) and len(cut) <= k


def have_tables(net, wires, gates):
    """Whether those of the wires that are gates are all among the gates."""
    return all(wire < net[0] or wire in gates for wire in wires)


def cover_holds(net, k, thing):
    """Whether the thing, anything, is a cover of the net for k."""
    if not isinstance(thing, tuple) or not all(is_table(net, k, table) for table in thing):
        return False
    gates = [gate for gate, cut in thing]
    if not rises(gates) or not have_tables(net, net[2], gates):
        return False
    return all(have_tables(net, cut, gates) for gate, cut in thing)


def leaned(net, cover):
    """The cover with its needed tables alone."""
    needed = {out: True for out in net[2]}
    tables = []
    # Cuts have lesser wires than their gate, so one walk downwards meets each table behind all that need it.
    for gate, cut in reversed(cover):
        if gate in needed:
            tables.append((gate, cut))
            for wire in cut:
                needed[wire] = True
    return tuple(tables[::-1])


def depth_by(net, cover):
    """The depth of the deepest out in the cover."""
    told = {wire: 0 for wire in range(net[0])}
    for gate, cut in cover:
        told[gate] = one_deeper(told, cut)
    return max([told[out] for out in net[2]])


def doubled(net, cover):
    """The gates, rising, that are in the insides of two tables or more."""
    counts = {}
    for gate, cut in cover:
        for wire in inside(net, gate, cut):
            counts[wire] = counts.get(wire, 0) + 1
    return tuple(wire for wire in sorted(counts) if counts[wire] > 1)
