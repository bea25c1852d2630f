"""What the tests share: things that are nothing right, and nets."""

import copy
import functools
import itertools
import random

from tablecover.cuts import cuts_of

FORTY = int("9" * 40)


def nested(wrap, depth):
    """A thing that is wrapped so often."""
    thing = 0
    for turn in range(depth):
        thing = wrap(thing)
    return thing


def junk():
    """Things that are no net, no way, no cut and no paper, made anew at each call."""
    return [
        None, True, False, 0, 1, -1, FORTY, -FORTY,
        "", "a", "0", "(0,)", "inputs 1\nouts 0", "\n", " ~",
        [], [0], [0, 1], [[0]], {}, {0: 1}, {"a": [1]}, {(0,): (0,)},
        (None,), (True,), (False,), ("",), ("0",), ([],), ({},), ((),), ((0,),), (0, None), (0, True), (0, "1"),
        (-1,), (FORTY,), (-FORTY,), (0, FORTY), (0, -1), (0, (1,)), (0, [1]), (0, {1: 1}),
        nested(lambda thing: (thing,), 30), nested(lambda thing: [thing], 30), nested(lambda thing: {0: thing}, 30),
        nested(lambda thing: (0, thing), 30), nested(lambda thing: (thing, (thing,)), 9),
        (0,) * 2000, tuple(range(2000)), [0] * 2000, ((0, 0, 0),) * 600, "0 " * 300,
    ]


def changed_things(ask, things):
    """Those of the things that are others after they were asked about."""
    found = []
    for thing in things:
        kept = copy.deepcopy(thing)
        try:
            ask(thing)
        except ValueError:
            pass
        if repr(kept) != repr(thing):
            found.append(kept)
    return found


def is_plain(thing):
    """Whether the thing is made of tuples and whole numbers alone."""
    if type(thing) is tuple:
        return all(is_plain(part) for part in thing)
    return type(thing) is int


def chain(many, count, kind=6):
    """Each gate takes the wire just ahead of it, and an input in turn."""
    gates = tuple((kind, many + at - 1, at % many) for at in range(count))
    return (many, gates, (many + count - 1,))


def doubled_chain(many, count, kind=1):
    """Each gate takes the wire just ahead of it twice."""
    gates = tuple((kind, many + at - 1, many + at - 1) for at in range(count))
    return (many, gates, (many + count - 1,))


def ladder(many, count, kind=8):
    """Each gate takes the two wires just ahead of it."""
    gates = tuple((kind, many + at - 2, many + at - 1) for at in range(count))
    return (many, gates, (many + count - 1,))


def tree(many, kind=8):
    """Gates that join the wires two by two, till one is left; many is 2, 4 or 8."""
    count = many - 1
    gates = tuple((kind, 2 * at, 2 * at + 1) for at in range(count))
    return (many, gates, (many + count - 1,))


def random_net(seed, many, count):
    """A net of so many inputs and gates, always the same for the same seed."""
    chance = random.Random(seed)
    gates = tuple(
        (chance.randrange(16), chance.randrange(many + at), chance.randrange(many + at)) for at in range(count)
    )
    outs = tuple(chance.randrange(many + count) for turn in range(chance.randrange(1, 9)))
    return (many, gates, outs)


def woven_net(seed, many, count):
    """A net whose gates take what no gate takes yet, if they can; the outs are what is left."""
    chance = random.Random(seed)
    gates = []
    for at in range(count):
        left = untaken(many, gates)
        places = [chance.choice(left or range(many + at)), chance.randrange(many + at)]
        chance.shuffle(places)
        gates.append((chance.randrange(16), *places))
    return (many, tuple(gates), tuple(untaken(many, gates))[-8:])


def untaken(many, gates):
    """The gates that no gate takes."""
    taken = {place for kind, one, other in gates for place in (one, other)}
    return [wire for wire in range(many, many + len(gates)) if wire not in taken]


def all_small_nets(many, count):
    """Nets of all places that so many gates can have, of one kind."""
    choices = [list(itertools.product(range(many + at), repeat=2)) for at in range(count)]
    for places in itertools.product(*choices):
        yield (many, tuple((7, one, other) for one, other in places), (many + count - 1,))


def all_ways(net, wire):
    """All ways to the wire, by the words of [7] alone."""
    many, gates, outs = net
    if wire < many:
        return [(wire,)]
    kind, one, other = gates[wire - many]
    return [way + (wire,) for place in sorted({one, other}) for way in all_ways(net, place)]


def tells_by_ways(ways, wires):
    """Whether each of the ways has one of the wires."""
    return all(any(wire in way for wire in wires) for way in ways)


@functools.cache
def plain_cuts(net, gate, k):
    """The cuts of the gate for k by a trial of all sets of lesser wires."""
    ways = [frozenset(way) for way in all_ways(net, gate)]
    # A way that has all wires of another one is told wherever that one is.
    ways = [way for way in set(ways) if not any(other < way for other in ways)]
    found = []
    for size in range(1, k + 1):
        for wires in itertools.combinations(range(gate), size):
            if tells_by_ways(ways, wires) and not any(
                tells_by_ways(ways, wires[:at] + wires[at + 1:]) for at in range(size)
            ):
                found.append(wires)
    return tuple(sorted(found))


@functools.cache
def plain_depths(net, k):
    """The depths by the words of [10], of cuts by a trial of all sets of wires."""
    told = [0] * net[0]
    for gate in gates_of(net):
        told.append(min(1 + max(told[wire] for wire in cut) for cut in plain_cuts(net, gate, k)))
    return tuple(told)


def plain_inside(net, gate, cut):
    """The inside by the words of [9], on and on."""
    many, gates, outs = net
    found = {gate}
    while True:
        more = {place for wire in found for place in gates[wire - many][1:] if place >= many and place not in cut}
        if more <= found:
            return tuple(sorted(found))
        found |= more


def is_number(thing):
    """Whether the thing is a whole number."""
    return type(thing) is int


def is_tuple(thing, size):
    """Whether the thing is a tuple of so many parts."""
    return type(thing) is tuple and len(thing) == size


def other_numbers(number):
    """Things that may stand by mistake where the number should."""
    yield from [number - 1, number + 1, -number - 1, FORTY, -FORTY, None, str(number), (number,), [number], {}]
    yield from [True, False]


def other_tuples(thing):
    """The tuple with a part left out, twice or exchanged with the next one, too long, or as another kind of thing."""
    yield from [list(thing), {0: thing}, None, 0, "", (), [], (thing,), thing + (0,), thing + thing, thing[::-1]]
    for at, part in enumerate(thing):
        yield thing[:at] + thing[at + 1:]
        yield thing[:at] + (part, part) + thing[at + 1:]
        yield thing[:at] + thing[at + 1:at + 2] + (part,) + thing[at + 2:]


def mutations(thing):
    """Things that differ from the thing at one place, deep within or not; some may be the thing itself."""
    if type(thing) is not tuple:
        yield from other_numbers(thing) if is_number(thing) else [None, 0, thing + " ", thing[:-1], [thing], (thing,)]
        return
    yield from other_tuples(thing)
    for at, part in enumerate(thing):
        for other in mutations(part):
            yield thing[:at] + (other,) + thing[at + 1:]


def laid_cases(net, k, depth, ends):
    """A paper of tables by the words of [20]: it counts where ends(needs, left) is true, or nothing is left to be laid.

    needs are the depths by which gates are needed, left is how many of these gates aren't laid.
    """
    depths = plain_depths(net, k)

    def paper(needs, laid):
        left = [gate for gate in needs if gate not in laid]
        if not left or ends(needs, len(left)):
            return ("count",)
        gate = max(left)
        papers = []
        for cut in plain_cuts(net, gate, k):
            if all(depths[wire] < needs[gate] for wire in cut):
                more = dict(needs)
                for wire in cut:
                    if wire >= net[0]:
                        more[wire] = min(more.get(wire, depth), needs[gate] - 1)
                papers.append(paper(more, laid | {gate}))
        return ("cases", tuple(papers))

    return paper({out: depth for out in net[2] if out >= net[0]}, frozenset())


def plain_fewest(net, k, depth):
    """How many tables a cover of at most the depth has at least, by a trial of all sets of gates, or None."""
    gates = list(gates_of(net))
    cuts = {gate: plain_cuts(net, gate, k) for gate in gates}
    for size in range(len(gates) + 1):
        for chosen in itertools.combinations(gates, size):
            told = {wire: 0 for wire in range(net[0])}
            # Each gate is as shallow as can be by tables of these gates alone; cuts that are no least ones do no more.
            for gate in chosen:
                fit = [cut for cut in cuts[gate] if all(wire in told for wire in cut)]
                if fit:
                    told[gate] = min(1 + max(told[wire] for wire in cut) for cut in fit)
            if all(out in told and told[out] <= depth for out in net[2]):
                return size
    return None


def with_more(chance, cut, gate, k):
    """The cut, perhaps with more wires of lesser numbers than the gate's, at most k."""
    wires = set(cut)
    while len(wires) < min(k, gate) and chance.random() < 0.4:
        wires.add(chance.randrange(gate))
    return tuple(sorted(wires))


def cuts_with_more(chance, net, gate, k):
    """Cuts of the gate of at most k wires, least ones and others."""
    return [with_more(chance, cut, gate, k) for cut in cuts_of(net, gate, k)]


def random_cover(seed, net, k, least=False, needless=0):
    """A cover for k, with least cuts alone or with some that have more wires, and with so many gates put in at will."""
    chance = random.Random(seed)
    waiting = [out for out in net[2] if out >= net[0]]
    waiting += [chance.choice(gates_of(net)) for turn in range(needless if net[1] else 0)]
    tables = {}
    while waiting:
        gate = waiting.pop()
        if gate not in tables:
            cut = chance.choice(cuts_of(net, gate, k))
            tables[gate] = cut if least else with_more(chance, cut, gate, k)
            waiting += [wire for wire in tables[gate] if wire >= net[0]]
    return tuple(sorted(tables.items()))


def gates_of(net):
    """The wires that are gates."""
    return range(net[0], net[0] + len(net[1]))


def small_nets():
    """Small nets of all shapes, and some of more gates."""
    for many, count in ((1, 1), (1, 2), (1, 3), (2, 1), (2, 2), (3, 2)):
        yield from all_small_nets(many, count)
    for seed in range(60):
        yield random_net(seed, 1 + seed % 6, 1 + seed % 7)
    yield from [tree(2), tree(4), tree(8), chain(1, 5), chain(3, 6), doubled_chain(2, 5), ladder(2, 6), ladder(4, 6)]


def nets_at_bounds(count):
    """Nets of so many gates, of many shapes."""
    yield from [chain(8, count), chain(1, count), chain(3, count), ladder(8, count), ladder(2, count)]
    yield from [doubled_chain(1, count), doubled_chain(8, count), mixed_tree(count), crossed(count)]
    for seed in range(12):
        yield random_net(1000 + seed, 8, count)
        yield random_net(2000 + seed, 1 + seed % 8, count)


def mixed_tree(count):
    """A tree over eight inputs, and a chain of gates over it that take one wire twice, or a wire of the tree."""
    gates = list(tree(8)[1])
    for at in range(7, count):
        wire = 8 + at
        gates.append((9, wire - 1, wire - 1) if at % 3 == 0 else (6, wire - 1, wire - 6))
    return (8, tuple(gates), (7 + count,))


def crossed(count):
    """Each gate takes a wire just ahead, and one that is seven further ahead: many ways that meet again."""
    gates = tuple((14, 7 + at, at) for at in range(count))
    return (8, gates, (7 + count,))
