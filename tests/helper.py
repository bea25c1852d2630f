"""What the tests share: things that are nothing right, and nets."""

import copy
import functools
import itertools
import random

from tablecover.covers import cover_holds
from tablecover.cuts import cuts_of

FORTY = int("9" * 40)


def nested(wrap, depth):
    """A thing that is wrapped so often."""
    thing = 0
    for turn in range(depth):
        thing = wrap(thing)
    return thing


def junk():
    """Things that are no net, no way, no cut and no paper, made anew at each call."""
    return [
        None, True, False, 0, 1, -1, FORTY, -FORTY,
        "", "a", "0", "(0,)", "inputs 1\nouts 0", "\n", " ~",
        [], [0], [0, 1], [[0]], {}, {0: 1}, {"a": [1]}, {(0,): (0,)},
        (None,), (True,), (False,), ("",), ("0",), ([],), ({},), ((),), ((0,),), (0, None), (0, True), (0, "1"),
        (-1,), (FORTY,), (-FORTY,), (0, FORTY), (0, -1), (0, (1,)), (0, [1]), (0, {1: 1}),
        nested(lambda thing: (thing,), 30), nested(lambda thing: [thing], 30), nested(lambda thing: {0: thing}, 30),
        nested(lambda thing: (0, thing), 30), nested(lambda thing: (thing, (thing,)), 9),
        (0,) * 2000, tuple(range(2000)), [0] * 2000, ((0, 0, 0),) * 600, "0 " * 300,
    ]


def changed_things(ask, things):
    """Those of the things that are others after they were asked about."""
    found = []
    for thing in things:
        kept = copy.deepcopy(thing)
        try:
            ask(thing)
        except ValueError:
            pass
        if repr(kept) != repr(thing):
            found.append(kept)
    return found


def is_plain(thing):
    """Whether the thing is made of tuples and whole numbers alone."""
    if type(thing) is tuple:
        return all(is_plain(part) for part in thing)
    return type(thing) is int


def chain(many, count, kind=6):
    """Each gate takes the wire just ahead of it, and an input in turn."""
    gates = tuple((kind, many + at - 1, at % many) for at in range(count))
    return (many, gates, (many + count - 1,))


def doubled_chain(many, count, kind=1):
    """Each gate takes the wire just ahead of it twice."""
    gates = tuple((kind, many + at - 1, many + at - 1) for at in range(count))
    return (many, gates, (many + count - 1,))


def ladder(many, count, kind=8):
    """Each gate takes the two wires just ahead of it."""
    gates = tuple((kind, many + at - 2, many + at - 1) for at in range(count))
    return (many, gates, (many + count - 1,))


def tree(many, kind=8):
    """Gates that join the wires two by two, till one is left; many is 2, 4 or 8."""
    count = many - 1
    gates = tuple((kind, 2 * at, 2 * at + 1) for at in range(count))
    return (many, gates, (many + count - 1,))


def random_net(seed, many, count):
    """A net of so many inputs and gates, always the same for the same seed."""
    chance = random.Random(seed)
    gates = tuple(
        (chance.randrange(16), chance.randrange(many + at), chance.randrange(many + at)) for at in range(count)
    )
    outs = tuple(chance.randrange(many + count) for turn in range(chance.randrange(1, 9)))
    return (many, gates, outs)


def woven_net(seed, many, count):
    """A net whose gates take what no gate takes yet, if they can; the outs are what is left."""
    chance = random.Random(seed)
    gates = []
    for at in range(count):
        left = untaken(many, gates)
        places = [chance.choice(left or range(many + at)), chance.randrange(many + at)]
        chance.shuffle(places)
        gates.append((chance.randrange(16), *places))
    return (many, tuple(gates), tuple(untaken(many, gates))[-8:])


def untaken(many, gates):
    """The gates that no gate takes."""
    taken = {place for kind, one, other in gates for place in (one, other)}
    return [wire for wire in range(many, many + len(gates)) if wire not in taken]


def turned_kind(kind, first, second, swap):
    """The kind that makes the same of its places' worths, where the first or second is turned, or they swap."""
    told = 0
    for low, high in itertools.product((0, 1), repeat=2):
        one, other = (high, low) if swap else (low, high)
        told += 2 ** (low + 2 * high) * (kind // 2 ** ((one ^ first) + 2 * (other ^ second)) % 2)
    return told


def rebuilt(seed, net, most=16):
    """A net of at most so many gates that does the same: places swapped, worths turned, gates more, wires handed on."""
    chance = random.Random(seed)
    many, gates, outs = net
    spare = most - len(gates)
    calls = {wire: (wire, 0) for wire in range(many)}
    told = []
    for at, (kind, *places) in enumerate(gates):
        swap = chance.randrange(2)
        ends = [calls[place] for place in places]
        kind = turned_kind(kind, ends[0][1], ends[1][1], swap)
        wires = [wire for wire, turn in ends][::-1 if swap else 1]
        while spare > 0 and chance.random() < 0.4:
            spare -= 1
            side = chance.randrange(2)
            # Kind 10 hands its one on, kind 12 its other.
            hands = chance.choice([(10, wires[side], chance.randrange(many + len(told))),
                                   (12, chance.randrange(many + len(told)), wires[side])])
            told.append(hands)
            if chance.random() < 0.7:
                wires[side] = many + len(told) - 1
        turn = 0 if many + at in outs else chance.randrange(2)
        calls[many + at] = (many + len(told), turn)
        told.append((15 - kind if turn else kind, *wires))
    return (many, tuple(told), tuple(calls[out][0] for out in outs))


def only_at(many, number):
    """A net whose out has the worth 1 just at the row of this number."""
    bits = [number // 2 ** at % 2 for at in range(many)]
    if many == 1:
        return (1, ((2 ** (3 * bits[0]), 0, 0),), (1,))
    gates = [(2 ** (bits[0] + 2 * bits[1]), 0, 1)]
    for at in range(2, many):
        gates.append((2 ** (1 + 2 * bits[at]), many + at - 2, at))
    return (many, tuple(gates), (2 * many - 2,))


def all_small_nets(many, count):
    """Nets of all places that so many gates can have, of one kind."""
    choices = [list(itertools.product(range(many + at), repeat=2)) for at in range(count)]
    for places in itertools.product(*choices):
        yield (many, tuple((7, one, other) for one, other in places), (many + count - 1,))


def all_ways(net, wire):
    """All ways to the wire, by the words of [7] alone."""
    many, gates, outs = net
    if wire < many:
        return [(wire,)]
    kind, one, other = gates[wire - many]
    return [way + (wire,) for place in sorted({one, other}) for way in all_ways(net, place)]


def tells_by_ways(ways, wires):
    """Whether each of the ways has one of the wires."""
    return all(any(wire in way for wire in wires) for way in ways)


@functools.cache
def plain_cuts(net, gate, k):
    """The cuts of the gate for k by a trial of all sets of lesser wires."""
    ways = [frozenset(way) for way in all_ways(net, gate)]
    # A way that has all wires of another one is told wherever that one is.
    ways = [way for way in set(ways) if not any(other < way for other in ways)]
    found = []
    for size in range(1, k + 1):
        for wires in itertools.combinations(range(gate), size):
            if tells_by_ways(ways, wires) and not any(
                tells_by_ways(ways, wires[:at] + wires[at + 1:]) for at in range(size)
            ):
                found.append(wires)
    return tuple(sorted(found))


@functools.cache
def plain_depths(net, k):
    """The depths by the words of [10], of cuts by a trial of all sets of wires."""
    told = [0] * net[0]
    for gate in gates_of(net):
        told.append(min(1 + max(told[wire] for wire in cut) for cut in plain_cuts(net, gate, k)))
    return tuple(told)


def plain_inside(net, gate, cut):
    """The inside by the words of [9], on and on."""
    many, gates, outs = net
    found = {gate}
    while True:
        more = {place for wire in found for place in gates[wire - many][1:] if place >= many and place not in cut}
        if more <= found:
            return tuple(sorted(found))
        found |= more


def plain_choices(net, gate, k, depths):
    """The gate's cuts; those by which it has its depth; of these those with the fewest wires; of these the first."""
    cuts = list(plain_cuts(net, gate, k))
    fit = [cut for cut in cuts if 1 + max(depths[wire] for wire in cut) == depths[gate]]
    few = [cut for cut in fit if len(cut) == min(map(len, fit))]
    return [cuts, fit, few, few[:1]]


def plain_cover_holds(net, k, thing):
    """Whether the thing is a cover, by the words of [14]."""
    if type(thing) is not tuple or not all(is_plain_table(net, k, table) for table in thing):
        return False
    gates = [gate for gate, cut in thing]
    taken = list(net[2]) + [wire for gate, cut in thing for wire in cut]
    return gates == sorted(set(gates)) and all(wire < net[0] or wire in gates for wire in taken)


def is_plain_table(net, k, thing):
    """Whether the thing is a table of a cover, by the words of [14]."""
    if not is_tuple(thing, 2):
        return False
    gate, cut = thing
    if not is_number(gate) or gate not in gates_of(net):
        return False
    if type(cut) is not tuple or not 1 <= len(cut) <= k or not all(is_number(wire) for wire in cut):
        return False
    if list(cut) != sorted(set(cut)) or not all(0 <= wire < gate for wire in cut):
        return False
    return tells_by_ways(all_ways(net, gate), cut)


def plain_leaned(net, cover):
    """The needed tables by the words of [14]."""
    cuts = dict(cover)
    needed = set()
    waiting = list(net[2])
    while waiting:
        wire = waiting.pop()
        if wire in cuts and wire not in needed:
            needed.add(wire)
            waiting += cuts[wire]
    return tuple((gate, cut) for gate, cut in cover if gate in needed)


def plain_depth(net, cover):
    """The cover's depth by the words of [14]."""
    cuts = dict(cover)

    def depth(wire):
        return 0 if wire < net[0] else 1 + max(depth(below) for below in cuts[wire])

    return max(depth(out) for out in net[2])


def forced_worths(net, row, held):
    """The worths of all wires where the held ones have these, whatever would be made of them."""
    many, gates, outs = net
    told = []
    for wire in range(net[0] + len(net[1])):
        if wire in held:
            told.append(held[wire])
        elif wire < many:
            told.append(row[wire])
        else:
            kind, one, other = gates[wire - many]
            told.append(kind // 2 ** (told[one] + 2 * told[other]) % 2)
    return told


def plain_content(net, wire, wires, rows):
    """The content by the words of [12], tried at some rows of the inputs, which make no difference."""
    told = []
    for number in range(2 ** len(wires)):
        held = {one: number // 2 ** at % 2 for at, one in enumerate(wires)}
        found = {forced_worths(net, row, held)[wire] for row in rows}
        assert len(found) == 1, (net, wire, wires)
        told.append(found.pop())
    return tuple(told)


def all_rows(net):
    """All rows, in any order."""
    return list(itertools.product((0, 1), repeat=net[0]))


def all_covers(net, k):
    """All covers for k with cuts of any wires, least or not."""
    choices = []
    for gate in gates_of(net):
        cuts = [cut for size in range(1, k + 1) for cut in itertools.combinations(range(gate), size)]
        choices.append([()] + [((gate, cut),) for cut in cuts])
    for tables in itertools.product(*choices):
        cover = sum(tables, ())
        if cover_holds(net, k, cover):
            yield cover


def plain_outs_at(net, row):
    """The worths of the outs by the words of [5]."""
    told = forced_worths(net, row, {})
    return tuple(told[out] for out in net[2])


def plain_first_unlike(one, other):
    """The least number of a row at which the two nets are unlike by the words of [22], or None."""
    for number in range(2 ** one[0]):
        row = tuple(number // 2 ** at % 2 for at in range(one[0]))
        if plain_outs_at(one, row) != plain_outs_at(other, row):
            return number
    return None


def plain_likeness_holds(one, other, thing):
    """Whether the thing is a likeness of the matching nets that holds, by the words of [23], clause by clause."""
    if type(thing) is not tuple or len(thing) > 60:
        return False
    shown = {(wire, wire) for wire in range(one[0])}
    for step in thing:
        if not is_plain_step(one, other, step) or not plain_step_holds(one, other, step, shown):
            return False
        shown.add(step[:2])
    return shown.issuperset(zip(one[2], other[2]))


def is_plain_step(one, other, thing):
    """Whether the thing is made as a step is, of wires that are there."""
    if not is_tuple(thing, 3) or type(thing[2]) is not tuple or not 1 <= len(thing[2]) <= 8:
        return False
    couples = (thing[:2], *thing[2])
    if not all(is_tuple(pair, 2) and is_number(pair[0]) and is_number(pair[1]) for pair in couples):
        return False
    bounds = [net[0] + len(net[1]) for net in (one, other)]
    return all(0 <= first < bounds[0] and 0 <= second < bounds[1] for first, second in couples)


def plain_step_holds(one, other, step, shown):
    """Whether the step holds where these pairs are shown."""
    pairs = step[2]
    if list(pairs) != sorted(set(pairs)) or not shown.issuperset(pairs):
        return False
    told = []
    for net, wire, wires in zip((one, other), step, zip(*pairs)):
        if len(set(wires)) < len(wires) or not tells_by_ways(all_ways(net, wire), wires):
            return False
        told.append(plain_content(net, wire, wires, [(0,) * net[0], (1,) * net[0]]))
    return told[0] == told[1]


def is_number(thing):
    """Whether the thing is a whole number."""
    return type(thing) is int


def is_tuple(thing, size):
    """Whether the thing is a tuple of so many parts."""
    return type(thing) is tuple and len(thing) == size


def other_numbers(number):
    """Things that may stand by mistake where the number should."""
    yield from [number - 1, number + 1, -number - 1, FORTY, -FORTY, None, str(number), (number,), [number], {}]
    yield from [True, False]


def other_tuples(thing):
    """The tuple with a part left out, twice or exchanged with the next one, too long, or as another kind of thing."""
    yield from [list(thing), {0: thing}, None, 0, "", (), [], (thing,), thing + (0,), thing + thing, thing[::-1]]
    for at, part in enumerate(thing):
        yield thing[:at] + thing[at + 1:]
        yield thing[:at] + (part, part) + thing[at + 1:]
        yield thing[:at] + thing[at + 1:at + 2] + (part,) + thing[at + 2:]


def mutations(thing):
    """Things that differ from the thing at one place, deep within or not; some may be the thing itself."""
    if type(thing) is not tuple:
        yield from other_numbers(thing) if is_number(thing) else [None, 0, thing + " ", thing[:-1], [thing], (thing,)]
        return
    yield from other_tuples(thing)
    for at, part in enumerate(thing):
        for other in mutations(part):
            yield thing[:at] + (other,) + thing[at + 1:]


def laid_cases(net, k, depth, ends):
    """A paper of tables by the words of [20]: it counts where ends(needs, left) is true, or nothing is left to be laid.

    needs are the depths by which gates are needed, left is how many of these gates aren't laid.
    """
    depths = plain_depths(net, k)

    def paper(needs, laid):
        left = [gate for gate in needs if gate not in laid]
        if not left or ends(needs, len(left)):
            return ("count",)
        gate = max(left)
        papers = []
        for cut in plain_cuts(net, gate, k):
            if all(depths[wire] < needs[gate] for wire in cut):
                more = dict(needs)
                for wire in cut:
                    if wire >= net[0]:
                        more[wire] = min(more.get(wire, depth), needs[gate] - 1)
                papers.append(paper(more, laid | {gate}))
        return ("cases", tuple(papers))

    return paper({out: depth for out in net[2] if out >= net[0]}, frozenset())


def plain_fewest(net, k, depth):
    """How many tables a cover of at most the depth has at least, by a trial of all sets of gates, or None."""
    gates = list(gates_of(net))
    cuts = {gate: plain_cuts(net, gate, k) for gate in gates}
    for size in range(len(gates) + 1):
        for chosen in itertools.combinations(gates, size):
            told = {wire: 0 for wire in range(net[0])}
            # Each gate is as shallow as can be by tables of these gates alone; cuts that are no least ones do no more.
            for gate in chosen:
                fit = [cut for cut in cuts[gate] if all(wire in told for wire in cut)]
                if fit:
                    told[gate] = min(1 + max(told[wire] for wire in cut) for cut in fit)
            if all(out in told and told[out] <= depth for out in net[2]):
                return size
    return None


def with_more(chance, cut, gate, k):
    """The cut, perhaps with more wires of lesser numbers than the gate's, at most k."""
    wires = set(cut)
    while len(wires) < min(k, gate) and chance.random() < 0.4:
        wires.add(chance.randrange(gate))
    return tuple(sorted(wires))


def cuts_with_more(chance, net, gate, k):
    """Cuts of the gate of at most k wires, least ones and others."""
    return [with_more(chance, cut, gate, k) for cut in cuts_of(net, gate, k)]


def random_cover(seed, net, k, least=False, needless=0):
    """A cover for k, with least cuts alone or with some that have more wires, and with so many gates put in at will."""
    chance = random.Random(seed)
    waiting = [out for out in net[2] if out >= net[0]]
    waiting += [chance.choice(gates_of(net)) for turn in range(needless if net[1] else 0)]
    tables = {}
    while waiting:
        gate = waiting.pop()
        if gate not in tables:
            cut = chance.choice(cuts_of(net, gate, k))
            tables[gate] = cut if least else with_more(chance, cut, gate, k)
            waiting += [wire for wire in tables[gate] if wire >= net[0]]
    return tuple(sorted(tables.items()))


def gates_of(net):
    """The wires that are gates."""
    return range(net[0], net[0] + len(net[1]))


def small_nets():
    """Small nets of all shapes, and some of more gates."""
    for many, count in ((1, 1), (1, 2), (1, 3), (2, 1), (2, 2), (3, 2)):
        yield from all_small_nets(many, count)
    for seed in range(60):
        yield random_net(seed, 1 + seed % 6, 1 + seed % 7)
    yield from [tree(2), tree(4), tree(8), chain(1, 5), chain(3, 6), doubled_chain(2, 5), ladder(2, 6), ladder(4, 6)]


def nets_at_bounds(count):
    """Nets of so many gates, of many shapes."""
    yield from [chain(8, count), chain(1, count), chain(3, count), ladder(8, count), ladder(2, count)]
    yield from [doubled_chain(1, count), doubled_chain(8, count), mixed_tree(count), crossed(count)]
    for seed in range(12):
        yield random_net(1000 + seed, 8, count)
        yield random_net(2000 + seed, 1 + seed % 8, count)


def mixed_tree(count):
    """A tree over eight inputs, and a chain of gates over it that take one wire twice, or a wire of the tree."""
    gates = list(tree(8)[1])
    for at in range(7, count):
        wire = 8 + at
        gates.append((9, wire - 1, wire - 1) if at % 3 == 0 else (6, wire - 1, wire - 6))
    return (8, tuple(gates), (7 + count,))


def crossed(count):
    """Each gate takes a wire just ahead, and one that is seven further ahead: many ways that meet again."""
    gates = tuple((14, 7 + at, at) for at in range(count))
    return (8, gates, (7 + count,))


def alike_pairs(one, other):
    """The pairs of a wire of each net that are alike at each row, but pairs of the same input."""
    sides = []
    for net in (one, other):
        worths = [forced_worths(net, row, {}) for row in all_rows(net)]
        sides.append(list(zip(*worths)))
    return [(first, second) for first, held in enumerate(sides[0]) for second, own in enumerate(sides[1])
            if held == own and not (first == second and first < one[0])]


def drawn_pairs(chance, pool, size):
    """At most so many of the pairs, rising, no wire twice."""
    told = []
    for pair in chance.sample(pool, len(pool)):
        if len(told) < size and all(pair[0] != first and pair[1] != second for first, second in told):
            told.append(pair)
    return tuple(sorted(told))


@functools.cache
def drawn_likeness(seed, one, other, most=60):
    """A likeness by another hand, of nets that do the same: steps at will, by at most so many steps."""
    chance = random.Random(seed)
    inputs = [(wire, wire) for wire in range(one[0])]
    shown, steps = set(inputs), []
    pairs = alike_pairs(one, other)
    # Those that the outs need go last, so that they are shown however many there are.
    outs = [pair for pair in dict.fromkeys(zip(one[2], other[2])) if pair in pairs]
    asked = sorted(chance.sample(pairs, min(len(pairs), most - len(outs) - 1)), key=sum)
    for pair in [chance.choice(inputs)] + asked + outs:
        trials = [drawn_pairs(chance, sorted(shown), chance.randrange(1, 9)) for turn in range(6)]
        held = (pairs for pairs in trials if plain_step_holds(one, other, (*pair, pairs), shown))
        steps.append((*pair, next(held, tuple(inputs))))
        shown.add(pair)
    return tuple(steps)


def plain_changed(net, thing):
    """The net that comes of the change by the words of [24], or None."""
    many, gates, outs = net
    if type(thing) is not tuple or thing == () or type(thing[0]) is not str:
        return None
    word, *parts = thing
    if word != "outs" and not all(is_number(part) for part in parts):
        return None
    gates = [list(gate) for gate in gates]
    count = many + len(gates)
    if word == "kind" and len(parts) == 2 and many <= parts[0] < count and 0 <= parts[1] < 16:
        gates[parts[0] - many][0] = parts[1]
    elif word == "lead" and len(parts) == 3 and many <= parts[0] < count and parts[1] in (0, 1) \
            and 0 <= parts[2] < parts[0]:
        gates[parts[0] - many][1 + parts[1]] = parts[2]
    elif word == "more" and len(parts) == 3 and len(gates) < 16 and 0 <= parts[0] < 16 \
            and 0 <= parts[1] < count and 0 <= parts[2] < count:
        gates.append(parts)
    elif word == "less" and parts == [] and gates and count - 1 not in outs:
        gates.pop()
    elif word == "outs" and len(parts) == 1 and type(parts[0]) is tuple and 1 <= len(parts[0]) <= 8 \
            and all(is_number(out) and 0 <= out < count for out in parts[0]):
        outs = parts[0]
    else:
        return None
    return (many, tuple(tuple(gate) for gate in gates), outs)


def drawn_change(chance, net):
    """A change at will, sometimes just beyond what can be done."""
    count = net[0] + len(net[1])
    word = chance.choice(["kind", "lead", "lead", "lead", "more", "more", "less", "outs"])
    gate = chance.randrange(net[0], count) if net[1] and chance.random() < 0.95 else chance.randrange(-1, count + 2)
    if word == "kind":
        return (word, gate, chance.randrange(17))
    if word == "lead":
        return (word, gate, chance.randrange(2), chance.randrange(max(1, gate + (chance.random() < 0.1))))
    if word == "more":
        return (word, chance.randrange(16), chance.randrange(count), chance.randrange(count + (chance.random() < 0.1)))
    if word == "less":
        return (word,)
    return (word, tuple(chance.randrange(count) for turn in range(chance.choice([1, 2, 3, 8, 9]))))
