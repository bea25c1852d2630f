"""Layouts [16], nets laid by covers [17], trimmed layouts [18], and what [2] and [3] say of them."""

import itertools
import random
import unittest

from helper import (
    FORTY, chain, changed_things, gates_of, is_number, is_plain, is_tuple, junk, ladder, mutations, nested,
    nets_at_bounds, random_cover, random_net, small_nets, tree,
)
from tablecover.contents import content, idle
from tablecover.covers import cover_holds
from tablecover.layouts import is_layout, laid, layout_outs, trimmed
from tablecover.nets import outs_at, row_of
from tablecover.plain import plain_cover

# Wire 2 is 0 and 1, wire 3 is not 2, wire 4 is 3 unlike 0.
LAYOUT = (2, (((0, 1), (0, 0, 0, 1)), ((2,), (1, 0)), ((0, 3), (0, 1, 1, 0))), (4, 3))


def plain_is_layout(thing):
    """Whether the thing is a layout, by the words of [16]."""
    if not is_tuple(thing, 3):
        return False
    many, tables, outs = thing
    if not is_number(many) or not 1 <= many <= 8 or type(tables) is not tuple or len(tables) > 16:
        return False
    if not all(is_plain_table(table, many + at) for at, table in enumerate(tables)):
        return False
    if type(outs) is not tuple or not 1 <= len(outs) <= 8:
        return False
    return all(is_number(out) and 0 <= out < many + len(tables) for out in outs)


def is_plain_table(thing, wire):
    if not is_tuple(thing, 2):
        return False
    places, held = thing
    if type(places) is not tuple or not 1 <= len(places) <= 4 or not all(is_number(place) for place in places):
        return False
    if list(places) != sorted(set(places)) or not all(0 <= place < wire for place in places):
        return False
    return is_tuple(held, 2 ** len(places)) and all(is_number(worth) and worth in (0, 1) for worth in held)


def plain_outs(layout, row):
    """The outs' worths by the words of [16]."""
    many, tables, outs = layout
    told = dict(enumerate(row))
    for at, (places, held) in enumerate(tables):
        number = 0
        for place, wire in enumerate(places):
            number += 2 ** place * told[wire]
        told[many + at] = held[number]
    return tuple(told[out] for out in outs)


def random_layout(seed, many, count):
    """A layout of so many inputs and tables, some of whose places are idle."""
    chance = random.Random(seed)
    tables = []
    for at in range(count):
        wire = many + at
        places = tuple(sorted(chance.sample(range(wire), chance.randrange(1, min(4, wire) + 1))))
        counted = [place for place in range(len(places)) if chance.random() < 0.6]
        worths = [chance.randrange(2) for number in range(16)]
        tables.append((places, tuple(
            worths[sum(2 ** at for at in counted if number // 2 ** at % 2)] for number in range(2 ** len(places))
        )))
    outs = tuple(chance.randrange(many + count) for turn in range(chance.randrange(1, 9)))
    return (many, tuple(tables), outs)


def random_layouts():
    for seed in range(120):
        yield random_layout(seed, 1 + seed % 8, seed % 17)


def some_rows(many):
    rows = list(itertools.product((0, 1), repeat=many))
    return rows if many < 6 else rows[::7] + rows[-1:]


class IsLayout(unittest.TestCase):
    def right(self, thing):
        self.assertIs(is_layout(thing), True, thing)

    def wrong(self, thing):
        self.assertIs(is_layout(thing), False, repr(thing)[:120])

    def test_layouts(self):
        self.right(LAYOUT)
        for layout in random_layouts():
            self.right(layout)

    def test_how_many_inputs(self):
        for many in (-1, 0, 9, 10, FORTY, -FORTY):
            self.wrong((many, (), (0,)))
        for many in range(1, 9):
            self.right((many, (), (0,)))
            self.right((many, (), (many - 1,)))
            self.wrong((many, (), (many,)))
        for many in (True, None, "1", (1,), [1]):
            self.wrong((many, (), (0,)))
            self.wrong((many, (((0,), (0, 1)),), (0,)))

    def test_how_many_tables(self):
        for many in (1, 8):
            for count in (0, 1, 15, 16):
                self.right((many, (((0,), (0, 1)),) * count, (many + count - 1,)))
            for count in (17, 18, 400):
                self.wrong((many, (((0,), (0, 1)),) * count, (0,)))

    def test_how_many_places(self):
        for many in (1, 2, 3, 4):
            self.right((many, ((tuple(range(many)), (0,) * 2 ** many),), (many,)))
            self.right((8, ((tuple(range(8 - many, 8)), (1,) * 2 ** many),), (8,)))
        for many in (5, 6, 8):
            self.wrong((8, ((tuple(range(many)), (0,) * 2 ** many),), (8,)))
        self.wrong((8, (((), (0,)),), (8,)))
        self.wrong((8, (((), ()),), (8,)))

    def test_how_long_a_content(self):
        for many in (1, 2, 3, 4):
            for size in range(40):
                expected = size == 2 ** many
                self.assertIs(is_layout((5, ((tuple(range(many)), (0,) * size),), (0,))), expected)

    def test_how_many_outs(self):
        for count in range(12):
            self.assertIs(is_layout((2, (), (1,) * count)), 1 <= count <= 8)
            self.assertIs(is_layout((2, LAYOUT[1], (4,) * count)), 1 <= count <= 8)

    def test_which_outs(self):
        for out in range(-6, 9):
            self.assertIs(is_layout((2, LAYOUT[1], (out,))), 0 <= out < 5)
            self.assertIs(is_layout((2, LAYOUT[1], (4, out))), 0 <= out < 5)
        for out in (True, False, None, "0", (0,), [0], FORTY):
            self.wrong((2, LAYOUT[1], (out,)))
            self.wrong((2, LAYOUT[1], (0, out)))

    def test_places_are_lesser_wires(self):
        for wire in range(-3, 9):
            self.assertIs(is_layout((2, (((wire,), (0, 1)),), (0,))), wire in (0, 1))
            self.assertIs(is_layout((2, (((0,), (0, 1)), ((wire,), (0, 1))), (0,))), wire in (0, 1, 2))
        self.wrong((2, (((0,), (0, 1)), ((0, 3), (0, 1, 1, 0))), (0,)))
        self.wrong((2, (((0, 2), (0, 1, 1, 0)), ((0,), (0, 1))), (0,)))

    def test_places_rise(self):
        for places in itertools.product(range(4), repeat=3):
            layout = (4, ((places, (0, 1) * 4),), (4,))
            self.assertIs(is_layout(layout), places[0] < places[1] < places[2])

    def test_worths(self):
        for worth in (2, -1, True, False, None, "0", "1", (0,), [1], FORTY):
            self.wrong((1, (((0,), (worth, 1)),), (0,)))
            self.wrong((1, (((0,), (0, worth)),), (0,)))

    def test_truths_as_places(self):
        for places in ((False,), (True,), (False, 1), (0, True)):
            self.wrong((2, ((places, (0, 1) * len(places)),), (0,)))

    def test_lists_and_other_kinds(self):
        many, tables, outs = LAYOUT
        for thing in (
            list(LAYOUT), (many, list(tables), outs), (many, tables, list(outs)), (many, tables),
            (many, tables, outs, ()), (tables, many, outs), (many, outs, tables),
            (many, tables[:1] + ([(2,), (1, 0)],), outs),
            (many, (((0, 1), [0, 0, 0, 1]),), (0,)), (many, (([0, 1], (0, 0, 0, 1)),), (0,)),
            (many, (((0, 0, 0, 1), (0, 1)),), (0,)), (many, (((0,), (0, 1), ()),), (0,)), (many, (((0,),),), (0,)),
            (many, ((),), (0,)), (many, (0,), (0,)), (many, ("a",), (0,)), (many, "", outs), (many, None, (0,)),
            (many, {}, (0,)), {0: many, 1: tables, 2: outs}, (many, ((0, (0, 1)),), (0,)), (many, (((0,), 1),), (0,)),
            (many, (((0,), "01"),), (0,)), (many, (("0", (0, 1)),), (0,)), (many, ((None, None),), (0,)), (),
            ((), (), ()),
        ):
            self.wrong(thing)

    def test_a_net_is_none(self):
        for net in (tree(8), chain(3, 5), random_net(3, 3, 3)):
            self.wrong(net)
        self.right((1, (), (0,)))

    def test_anything(self):
        many, tables, outs = LAYOUT
        for thing in junk():
            self.wrong(thing)
            self.wrong((many, thing, outs))
            self.wrong((thing, tables, outs))
            self.wrong((many, tables, thing))
            for at in range(3):
                self.wrong((many, tables[:at] + (thing,) + tables[at + 1:], outs))
                self.wrong((many, tables[:at] + ((tables[at][0], thing),) + tables[at + 1:], outs))
                self.wrong((many, tables[:at] + ((thing, tables[at][1]),) + tables[at + 1:], outs))

    def test_thirty_deep_and_many_parts(self):
        for wrap in (lambda thing: (thing,), lambda thing: [thing], lambda thing: {0: thing},
                     lambda thing: (1, thing, (0,)), lambda thing: (1, (thing,), (0,))):
            for depth in range(31):
                self.wrong(nested(wrap, depth))
        self.wrong((1, (), (0,) * 1990))
        self.wrong((1, (((0,), (0, 1)),) * 300, (0,)))
        self.wrong((1, (((0,), (0,) * 1990),), (0,)))
        self.wrong((1, ((tuple(range(1990)), (0, 1)),), (0,)))

    def test_changed_at_one_place(self):
        right = wrong = 0
        for layout in [LAYOUT] + [random_layout(seed, 1 + seed % 8, 1 + seed % 6) for seed in range(16)]:
            for thing in mutations(layout):
                expected = plain_is_layout(thing)
                self.assertIs(is_layout(thing), expected, thing)
                right, wrong = right + expected, wrong + (not expected)
        self.assertGreater(right, 100)
        self.assertGreater(wrong, 2000)

    def test_nothing_is_changed(self):
        self.assertEqual(changed_things(is_layout, junk()), [])
        lists = [list(LAYOUT), (2, list(LAYOUT[1]), [4, 3]), (2, ([[0, 1], [0, 0, 0, 1]],), (0,))]
        self.assertEqual(changed_things(is_layout, lists), [])


class LayoutOuts(unittest.TestCase):
    def test_ordinary_ones(self):
        self.assertEqual(layout_outs(LAYOUT, (0, 0)), (1, 1))
        self.assertEqual(layout_outs(LAYOUT, (1, 0)), (0, 1))
        self.assertEqual(layout_outs(LAYOUT, (0, 1)), (1, 1))
        self.assertEqual(layout_outs(LAYOUT, (1, 1)), (1, 0))
        self.assertEqual(layout_outs((3, (), (2, 0, 0)), (1, 0, 0)), (0, 1, 1))

    def test_the_first_place_counts_one(self):
        for number in range(16):
            row = tuple(number // 2 ** at % 2 for at in range(4))
            for other in range(16):
                held = tuple(int(at == other) for at in range(16))
                self.assertEqual(layout_outs((4, (((0, 1, 2, 3), held),), (4,)), row), (int(number == other),))

    def test_against_a_plain_walk(self):
        for layout in random_layouts():
            for row in some_rows(layout[0]):
                told = layout_outs(layout, row)
                self.assertTrue(is_plain(told))
                self.assertEqual(told, plain_outs(layout, row))

    def test_the_same_asked_again(self):
        asked = [(layout, (1,) * layout[0]) for layout in random_layouts()]
        first = [layout_outs(layout, row) for layout, row in asked]
        again = [layout_outs(layout, row) for layout, row in asked[::-1]]
        self.assertEqual(first, again[::-1])


class Laid(unittest.TestCase):
    def judge(self, net, k, cover):
        self.assertTrue(cover_holds(net, k, cover))
        layout = laid(net, cover)
        self.assertTrue(is_plain(layout))
        self.assertTrue(plain_is_layout(layout), layout)
        many, tables, outs = layout
        self.assertEqual((many, len(tables)), (net[0], len(cover)))
        # Table j is wire many + j: so each place and each out is led back to the gate that it is called for.
        gates = list(range(many)) + [gate for gate, cut in cover]
        for (places, held), (gate, cut) in zip(tables, cover):
            self.assertEqual(tuple(gates[place] for place in places), cut)
            self.assertEqual(held, content(net, gate, cut))
        self.assertEqual(tuple(gates[out] for out in outs), net[2])
        for number in range(0, 2 ** many, 1 if many < 6 else 5):
            row = row_of(net, number)
            self.assertEqual(layout_outs(layout, row), outs_at(net, row), (net, cover, row))
        return layout

    def test_ordinary_ones(self):
        net = (3, ((8, 0, 1), (6, 1, 2), (14, 3, 4), (1, 5, 5), (7, 3, 2)), (6, 7, 0, 6))
        self.assertEqual(laid(net, ((6, (0, 1, 2)), (7, (0, 1, 2)))), (
            3, (((0, 1, 2), (1, 1, 0, 0, 0, 0, 1, 0)), ((0, 1, 2), (1, 1, 1, 1, 1, 1, 1, 0))), (3, 4, 0, 3),
        ))
        self.assertEqual(laid(net, ((3, (0, 1)), (4, (1, 2)), (6, (3, 4)), (7, (2, 3)))), (
            3, (((0, 1), (0, 0, 0, 1)), ((1, 2), (0, 1, 1, 0)), ((3, 4), (1, 0, 0, 0)), ((2, 3), (1, 1, 1, 0))),
            (5, 6, 0, 5),
        ))

    def test_gates_are_called_by_their_tables(self):
        net = (2, ((8, 0, 1), (9, 2, 2), (6, 3, 0), (14, 4, 4), (2, 5, 4)), (6, 4, 1, 6))
        cover = ((4, (0, 1)), (6, (4,)))
        self.assertEqual(laid(net, cover)[2], (3, 2, 1, 3))
        self.assertEqual(laid(net, cover)[1][1][0], (2,))
        self.judge(net, 2, cover)

    def test_no_table(self):
        self.assertEqual(laid((3, (), (2, 0)), ()), (3, (), (2, 0)))
        self.assertEqual(laid((8, tree(8)[1], (7, 7)), ()), (8, (), (7, 7)))

    def test_covers_of_least_cuts_and_others(self):
        for seed, net in enumerate(itertools.islice(small_nets(), 0, None, 2)):
            for k in (2, 3, 4):
                self.judge(net, k, random_cover(seed, net, k, least=seed % 2 == 0, needless=seed % 3))
                self.judge(net, k, plain_cover(net, k))

    def test_nets_at_the_bounds(self):
        for k, count in ((2, 16), (3, 16), (4, 12)):
            for seed, net in enumerate(nets_at_bounds(count)):
                self.judge(net, k, plain_cover(net, k))
                self.judge(net, k, random_cover(seed, net, k, needless=seed % 4))

    def test_a_table_for_each_of_sixteen_gates(self):
        for net in nets_at_bounds(16):
            cover = tuple((gate, tuple(sorted(set(net[1][gate - net[0]][1:])))) for gate in gates_of(net))
            layout = self.judge(net, 2, cover)
            self.assertEqual(len(layout[1]), 16)
            self.assertEqual(layout[2], net[2])

    def test_the_same_asked_again(self):
        nets = [tree(8), ladder(6, 10), chain(8, 12), random_net(4, 6, 11)]
        asked = [(net, random_cover(seed, net, 3)) for seed, net in enumerate(nets)]
        first = [laid(net, cover) for net, cover in asked]
        again = [laid(net, cover) for net, cover in asked[::-1]]
        self.assertEqual(first, again[::-1])


class Trimmed(unittest.TestCase):
    def table(self, places, held):
        """The one table of a trimmed layout that has this one."""
        many, tables, outs = trimmed((5, ((places, held),), (5, 0)))
        self.assertEqual((many, len(tables), outs), (5, 1, (5, 0)))
        return tables[0]

    def test_none_idle(self):
        for places, held in (((1,), (0, 1)), ((0, 3), (0, 1, 1, 0)), ((1, 2, 4), (0,) * 7 + (1,))):
            self.assertEqual(self.table(places, held), (places, held))
        self.assertEqual(trimmed(LAYOUT), LAYOUT)
        self.assertEqual(trimmed((3, (), (2, 2))), (3, (), (2, 2)))

    def test_some_idle(self):
        self.assertEqual(self.table((0, 3), (0, 0, 1, 1)), ((3,), (0, 1)))
        self.assertEqual(self.table((0, 3), (1, 0, 1, 0)), ((0,), (1, 0)))
        self.assertEqual(self.table((0, 2, 4), (0, 0, 1, 1, 1, 1, 0, 0)), ((2, 4), (0, 1, 1, 0)))
        self.assertEqual(self.table((0, 2, 4), (0, 1, 0, 1, 1, 1, 1, 1)), ((0, 4), (0, 1, 1, 1)))
        self.assertEqual(self.table((0, 2, 4), (0, 0, 1, 1, 0, 0, 1, 1)), ((2,), (0, 1)))
        self.assertEqual(self.table((0, 1, 2, 3), (0,) * 8 + (1,) * 8), ((3,), (0, 1)))
        self.assertEqual(self.table((0, 1, 2, 3), (1, 1, 1, 1, 0, 0, 0, 0) * 2), ((2,), (1, 0)))
        self.assertEqual(self.table((0, 1, 2, 3), (1, 1, 0, 0) * 2 + (0, 0, 0, 0) * 2), ((1, 3), (1, 0, 0, 0)))

    def test_all_idle(self):
        for places in ((3,), (2, 4), (1, 2, 3), (0, 1, 2, 4)):
            for worth in (0, 1):
                self.assertEqual(self.table(places, (worth,) * 2 ** len(places)), (places[:1], (worth, worth)))

    def test_tables_that_nothing_takes_stay(self):
        layout = (2, (((0, 1), (0, 1, 1, 0)), ((0, 2), (0, 1, 0, 1)), ((0, 1), (0, 0, 0, 0))), (3,))
        self.assertEqual(trimmed(layout), (2, (((0, 1), (0, 1, 1, 0)), ((0,), (0, 1)), ((0,), (0, 0))), (3,)))

    def test_many(self):
        changed = 0
        for layout in random_layouts():
            told = trimmed(layout)
            self.assertTrue(is_plain(told))
            self.assertTrue(plain_is_layout(told), told)
            self.assertEqual((told[0], len(told[1]), told[2]), (layout[0], len(layout[1]), layout[2]))
            self.assertEqual(trimmed(told), told)
            changed += told != layout
            for row in some_rows(layout[0]):
                self.assertEqual(layout_outs(told, row), plain_outs(layout, row))
            for (places, held), (kept, own) in zip(layout[1], told[1]):
                still = tuple(place for at, place in enumerate(places) if at not in idle(held))
                self.assertEqual(kept, still or places[:1])
                self.assertEqual(idle(own), () if still else (0,))
        self.assertGreater(changed, 60)

    def test_laid_nets(self):
        for seed, net in enumerate(nets_at_bounds(12)):
            layout = laid(net, random_cover(seed, net, 4))
            told = trimmed(layout)
            for row in some_rows(net[0]):
                self.assertEqual(layout_outs(told, row), outs_at(net, row))

    def test_the_same_asked_again(self):
        asked = list(random_layouts())
        first = [trimmed(layout) for layout in asked]
        again = [trimmed(layout) for layout in asked[::-1]]
        self.assertEqual(first, again[::-1])


if __name__ == "__main__":
    unittest.main()
