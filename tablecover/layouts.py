"""Layouts: nets of tables, laid by covers, and trimmed."""

from tablecover.contents import content, idle, without
from tablecover.cuts import is_rising
from tablecover.nets import MOST_GATES, are_outs, is_below, is_many

MOST_PLACES = 4


def are_worths(thing, count):
    """Whether the thing is a tuple of so many worths."""
    return isinstance(thing, tuple) and len(thing) == count and all(is_below(worth, 2) for worth in thing)


def is_layout_table(thing, wire):
    """Whether the thing can be the table that is this wire."""
    if not isinstance(thing, tuple) or len(thing) != 2:
        return False
    places, held = thing
    return is_rising(places, wire) and len(places) <= MOST_PLACES and are_worths(held, 1 << len(places))


def are_tables(thing, many):
    """Whether the thing can be the tables of a layout of so many inputs."""
    if not isinstance(thing, tuple) or len(thing) > MOST_GATES:
        return False
    return all(is_layout_table(table, many + at) for at, table in enumerate(thing))


def is_layout(thing):
    """Whether the thing, anything, is a layout."""
    if not isinstance(thing, tuple) or len(thing) != 3:
        return False
    many, tables, outs = thing
    return is_many(many) and are_tables(tables, many) and are_outs(outs, many + len(tables))


def layout_outs(layout, row):
    """The worths of the layout's outs at the row."""
    many, tables, outs = layout
    told = list(row)
    for places, held in tables:
        told.append(held[sum([told[wire] << at for at, wire in enumerate(places)])])
    return tuple(told[out] for out in outs)


def laid(net, cover):
    """The layout of the cover's tables."""
    many, gates, outs = net
    calls = {wire: wire for wire in range(many)}
    tables = []
    for at, (gate, cut) in enumerate(cover):
        tables.append((tuple(calls[wire] for wire in cut), content(net, gate, cut)))
        calls[gate] = many + at
    return (many, tuple(tables), tuple(calls[out] for out in outs))


def trimmed_table(table):
    """The table without the idle places of its content; one place stays at least."""
    places, held = table
    going = idle(held)
    if len(going) == len(places):
        going = going[1:]
    # From behind, so that the places that go later keep their numbers.
    for place in reversed(going):
        places = places[:place] + places[place + 1:]
        held = without(held, place)
    return (places, held)


def trimmed(layout):
    """The layout without the idle places of its tables."""
    many, tables, outs = layout
    return (many, tuple(trimmed_table(table) for table in tables), outs)
