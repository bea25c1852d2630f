"""Covers eased by turns, each of which gives one table another cut, so that fewer tables do."""

from tablecover.covers import depth_by, leaned
from tablecover.cuts import all_cuts
from tablecover.plain import all_choices


def turned(net, choices, cover, turn):
    """The cover behind the turn; gates that had no table and are needed then have their choices."""
    tables = dict(choices + cover + (turn,))
    return leaned(net, tuple(sorted(tables.items())))


def turns_of(cuts, cover):
    """The turns of the cover, by gates, rising, then by the cuts' order."""
    return [(gate, cut) for gate, held in cover for cut in cuts[gate] if cut != held]


def first_good(net, cuts, choices, depth, cover):
    """The first good turn of the cover and the cover behind it, or None."""
    for turn in turns_of(cuts, cover):
        told = turned(net, choices, cover, turn)
        if len(told) < len(cover) and depth_by(net, told) <= depth:
            return (turn, told)
    return None


def eased(net, k, depth, cover):
    """The lean cover, eased till no turn is good, and the turns that were done."""
    cuts = all_cuts(net, k)
    choices = all_choices(net, cuts)
    eased_cover = cover
    turns = []
    found = first_good(net, cuts, choices, depth, cover)
    # Each turn leaves fewer tables, so this ends.
    while found is not None:
        turn, eased_cover = found
        turns.append(turn)
        found = first_good(net, cuts, choices, depth, eased_cover)
    return (eased_cover, tuple(turns))
