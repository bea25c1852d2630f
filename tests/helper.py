"""What the tests share: things that are nothing right, and nets."""

import copy
import itertools
import random

FORTY = int("9" * 40)


def nested(wrap, depth):
    """A thing that is wrapped so often."""
    thing = 0
    for turn in range(depth):
        thing = wrap(thing)
    return thing


def junk():
    """Things that are no net, no way, no cut and no paper, made anew at each call."""
    return [
        None, True, False, 0, 1, -1, FORTY, -FORTY,
        "", "a", "0", "(0,)", "inputs 1\nouts 0", "\n", " ~",
        [], [0], [0, 1], [[0]], {}, {0: 1}, {"a": [1]}, {(0,): (0,)},
        (None,), (True,), (False,), ("",), ("0",), ([],), ({},), ((),), ((0,),), (0, None), (0, True), (0, "1"),
        (-1,), (FORTY,), (-FORTY,), (0, FORTY), (0, -1), (0, (1,)), (0, [1]), (0, {1: 1}),
        nested(lambda thing: (thing,), 30), nested(lambda thing: [thing], 30), nested(lambda thing: {0: thing}, 30),
        nested(lambda thing: (0, thing), 30), nested(lambda thing: (thing, (thing,)), 9),
        (0,) * 2000, tuple(range(2000)), [0] * 2000, ((0, 0, 0),) * 600, "0 " * 300,
    ]


def changed_things(ask, things):
    """Those of the things that are others after they were asked about."""
    found = []
    for thing in things:
        kept = copy.deepcopy(thing)
        try:
            ask(thing)
        except ValueError:
            pass
        if repr(kept) != repr(thing):
            found.append(kept)
    return found


def is_plain(thing):
    """Whether the thing is made of tuples and whole numbers alone."""
    if type(thing) is tuple:
        return all(is_plain(part) for part in thing)
    return type(thing) is int


def chain(many, count, kind=6):
    """Each gate takes the wire just ahead of it, and an input in turn."""
    gates = tuple((kind, many + at - 1, at % many) for at in range(count))
    return (many, gates, (many + count - 1,))


def doubled_chain(many, count, kind=1):
    """Each gate takes the wire just ahead of it twice."""
    gates = tuple((kind, many + at - 1, many + at - 1) for at in range(count))
    return (many, gates, (many + count - 1,))


def ladder(many, count, kind=8):
    """Each gate takes the two wires just ahead of it."""
    gates = tuple((kind, many + at - 2, many + at - 1) for at in range(count))
    return (many, gates, (many + count - 1,))


def tree(many, kind=8):
    """Gates that join the wires two by two, till one is left; many is 2, 4 or 8."""
    count = many - 1
    gates = tuple((kind, 2 * at, 2 * at + 1) for at in range(count))
    return (many, gates, (many + count - 1,))


def random_net(seed, many, count):
    """A net of so many inputs and gates, always the same for the same seed."""
    chance = random.Random(seed)
    gates = tuple(
        (chance.randrange(16), chance.randrange(many + at), chance.randrange(many + at)) for at in range(count)
    )
    outs = tuple(chance.randrange(many + count) for turn in range(chance.randrange(1, 9)))
    return (many, gates, outs)


def all_small_nets(many, count):
    """Nets of all places that so many gates can have, of one kind."""
    choices = [list(itertools.product(range(many + at), repeat=2)) for at in range(count)]
    for places in itertools.product(*choices):
        yield (many, tuple((7, one, other) for one, other in places), (many + count - 1,))
