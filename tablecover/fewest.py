"""The fewest tables of nets of few gates, with a paper that fewer don't do."""

from tablecover.depths import depths
from tablecover.errors import NoDepth, TooMany
from tablecover.needs import cut_choices, first_needs, fitting_cuts, needs_with, next_gate
from tablecover.nets import wires_in

MOST_GATES_TRIED = 6


def fewest_tables(net, choices, needs, bound):
    """As few tables as can be, falling, for all needed gates below the bound."""
    gate = next_gate(needs, bound)
    if gate is None:
        return ()
    trials = []
    for cut in fitting_cuts(choices, gate, needs):
        behind = fewest_tables(net, choices, needs_with(net, needs, gate, cut), gate)
        trials.append(((gate, cut),) + behind)
    return min(trials, key=len)


def count_paper(net, choices, needs, bound, count):
    """The paper that counts just where so many gates are needed, or more."""
    if len(needs) >= count:
        return ("count",)
    gate = next_gate(needs, bound)
    cuts = fitting_cuts(choices, gate, needs)
    papers = [count_paper(net, choices, needs_with(net, needs, gate, cut), gate, count) for cut in cuts]
    return ("cases", tuple(papers))


def fewest(net, k, depth):
    """A cover of at most the depth with the fewest tables, and the paper that fewer don't do."""
    if len(net[1]) > MOST_GATES_TRIED:
        raise TooMany(f"more than {MOST_GATES_TRIED} gates")
    told = depths(net, k)
    least = max([told[out] for out in net[2]])
    if least > depth:
        raise NoDepth(least)
    choices = cut_choices(net, k)
    needs = first_needs(net, depth)
    tables = fewest_tables(net, choices, needs, wires_in(net))
    return (tables[::-1], count_paper(net, choices, needs, wires_in(net), len(tables)))
