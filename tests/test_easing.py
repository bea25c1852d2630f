"""Easing [21], and what [2] and [3] say of it."""

import functools
import itertools
import unittest

from helper import (
    FORTY, all_covers, chain, crossed, doubled_chain, is_plain, ladder, nets_at_bounds, plain_choices,
    plain_cover_holds, plain_cuts, plain_depth, plain_depths, plain_leaned, random_cover, random_net, small_nets, tree,
    woven_net,
)
from tablecover.covers import cover_holds, depth_by, leaned
from tablecover.cuts import is_least_cut
from tablecover.easing import eased
from tablecover.plain import plain_cover

# Wires 0 to 3; 4 takes 0 and 1; 5 takes 4 and 2; 6 takes 5 and 3.
NET = (4, ((8, 0, 1), (8, 4, 2), (8, 5, 3)), (6,))


@functools.cache
def plain_choice(net, gate, k):
    return plain_choices(net, gate, k, plain_depths(net, k))[-1][0]


def needed_gates(net, tables):
    """The gates that are needed, with a table or without one."""
    found = set()
    waiting = list(net[2])
    while waiting:
        wire = waiting.pop()
        if wire >= net[0] and wire not in found:
            found.add(wire)
            waiting += tables.get(wire, ())
    return found


def plain_turned(net, k, cover, gate, cut):
    """The cover behind the turn by the words of [21]."""
    tables = {**dict(cover), gate: cut}
    while True:
        needed = needed_gates(net, tables)
        if needed <= set(tables):
            return tuple(sorted((gate, cut) for gate, cut in tables.items() if gate in needed))
        tables.update({gate: plain_choice(net, gate, k) for gate in needed - set(tables)})


def good_turns(net, k, depth, cover):
    """All good turns in order, each with the cover behind it."""
    for gate, held in cover:
        for cut in plain_cuts(net, gate, k):
            if cut != held:
                told = plain_turned(net, k, cover, gate, cut)
                if len(told) < len(cover) and plain_depth(net, told) <= depth:
                    yield (gate, cut), told


def plain_eased(net, k, depth, cover):
    """The covers, from the handed one on, and the turns between them, by the words of [21]."""
    covers, turns = [cover], []
    while True:
        found = next(good_turns(net, k, depth, covers[-1]), None)
        if found is None:
            return covers, turns
        turns.append(found[0])
        covers.append(found[1])


def lean_covers(net, k, seeds):
    """The plain cover, and lean covers by another hand, of least cuts and of others."""
    yield plain_cover(net, k)
    for seed in seeds:
        yield leaned(net, random_cover(seed, net, k, least=seed % 2 == 0, needless=seed % 3))


def many_nets():
    """Nets with k, of up to sixteen gates, and of up to twelve for 4."""
    for net in itertools.islice(small_nets(), 0, None, 5):
        for k in (2, 3, 4):
            yield net, k
    for seed in range(30):
        for k in (2, 3, 4):
            yield woven_net(seed, 3 + seed % 6, 5 + seed % 8), k
    for k, count in ((2, 16), (3, 16), (4, 12)):
        for net in itertools.islice(nets_at_bounds(count), 0, None, 2):
            yield net, k
        for seed in range(4):
            yield woven_net(100 + seed, 8, count), k
    for count in range(1, 17):
        yield chain(1 + count % 8, count), 3


class Eased(unittest.TestCase):
    def judge(self, net, k, depth, cover):
        """Hold what is told against the plain trial; tells the covers, from the handed one on."""
        told = eased(net, k, depth, cover)
        self.assertIs(type(told), tuple)
        self.assertTrue(is_plain(told))
        covers, turns = plain_eased(net, k, depth, cover)
        self.assertEqual(told, (covers[-1], tuple(turns)), (net, k, depth, cover))
        counts = [len(one) for one in covers]
        self.assertEqual(counts, sorted(set(counts), reverse=True))
        self.assertIs(cover_holds(net, k, told[0]), True)
        self.assertTrue(plain_cover_holds(net, k, told[0]))
        self.assertEqual(plain_leaned(net, told[0]), told[0])
        self.assertLessEqual(plain_depth(net, told[0]), depth)
        self.assertLessEqual(len(told[0]), len(cover))
        self.assertEqual(told[0] == cover, turns == [])
        return covers

    def test_ordinary_ones(self):
        cover = ((4, (0, 1)), (5, (2, 4)), (6, (3, 5)))
        self.assertEqual(eased(NET, 2, 3, cover), (cover, ()))
        # For 3 the gate 5 is told by the inputs; then the gate 6 could be told by 2, 3 and 4, which is no fewer.
        self.assertEqual(eased(NET, 3, 3, cover), (((5, (0, 1, 2)), (6, (3, 5))), ((5, (0, 1, 2)),)))
        self.assertEqual(eased(NET, 4, 3, cover), (((6, (0, 1, 2, 3)),), ((5, (0, 1, 2)), (6, (0, 1, 2, 3)))))

    def test_by_gates_rising_then_by_the_cuts_order(self):
        # For 4 the turns of the gate 5 go ahead of those of the gate 6, and (0, 1, 2, 3) ahead of (2, 3, 4).
        cover = ((5, (0, 1, 2)), (6, (3, 5)))
        self.assertEqual(plain_cuts(NET, 6, 4), ((0, 1, 2, 3), (2, 3, 4), (3, 5)))
        self.assertEqual(eased(NET, 4, 2, cover), (((6, (0, 1, 2, 3)),), ((6, (0, 1, 2, 3)),)))
        cover = ((4, (0, 1)), (5, (2, 4)), (6, (3, 5)))
        turns = [turn for turn, told in good_turns(NET, 4, 3, cover)]
        self.assertEqual(turns, [(5, (0, 1, 2)), (6, (0, 1, 2, 3)), (6, (2, 3, 4))])

    def test_a_gate_without_a_table_gets_its_choice(self):
        # Told by the inputs, the gate 5 needs no table of the gate 4.
        net = (3, ((8, 0, 1), (6, 3, 3), (9, 4, 4), (8, 5, 2)), (6,))
        cover = ((4, (0, 1)), (5, (4,)), (6, (2, 5)))
        told, turns = eased(net, 2, 3, cover)
        self.assertEqual(turns, ((5, (0, 1)),))
        self.assertEqual(told, ((5, (0, 1)), (6, (2, 5))))
        # The gate 3 has no table ahead; its choice is (0, 1).
        cover = ((4, (0, 1, 2)), (5, (0, 4)), (6, (2, 5)))
        self.assertIs(cover_holds(net, 3, cover), True)
        self.assertEqual(plain_turned(net, 3, cover, 6, (2, 3)), ((3, (0, 1)), (6, (2, 3))))
        self.judge(net, 3, 3, cover)

    def test_outs_that_are_inputs_alone(self):
        for net in ((1, (), (0,)), (8, (), (7, 7, 0)), (4, NET[1], (0, 3)), (8, chain(8, 12)[1], (5,))):
            for k in (2, 3, 4):
                for depth in (0, 1, FORTY):
                    self.assertEqual(eased(net, k, depth, ()), ((), ()))

    def test_no_good_turn(self):
        asked = [
            (tree(8), 2), (tree(8), 4), (doubled_chain(1, 16), 2), (doubled_chain(8, 12), 4), (chain(2, 9), 2),
            (chain(8, 16), 2), ((2, ((8, 0, 1),), (2, 2, 0)), 3),
        ]
        for net, k in asked:
            cover = plain_cover(net, k)
            for depth in (depth_by(net, cover), depth_by(net, cover) + 1, FORTY):
                self.assertEqual(eased(net, k, depth, cover), (cover, ()))
                self.judge(net, k, depth, cover)

    def test_fewer_where_it_may_be_deeper(self):
        """A turn that makes the cover deeper is good just where the depth lets it."""
        # The gate 4 is two deep in the cover; the gate 6 is three deep by it, two deep by the gate 5.
        net = (3, ((8, 0, 1), (6, 1, 3), (9, 4, 4), (8, 5, 2)), (3, 4, 6))
        cover = ((3, (0, 1)), (4, (1, 3)), (5, (0, 1)), (6, (2, 5)))
        fewer = ((3, (0, 1)), (4, (1, 3)), (6, (2, 4)))
        self.assertEqual((depth_by(net, cover), depth_by(net, fewer)), (2, 3))
        self.assertEqual(eased(net, 2, 2, cover), (cover, ()))
        for depth in (3, 4, FORTY):
            self.assertEqual(eased(net, 2, depth, cover), (fewer, ((6, (2, 4)),)))
        # Found among drawn nets.
        net = (5, ((8, 2, 0), (6, 5, 4), (13, 6, 0), (8, 7, 4), (0, 8, 1), (13, 7, 9), (4, 10, 5)), (11,))
        cover = ((5, (0, 2)), (7, (0, 4, 5)), (8, (0, 2, 4)), (9, (1, 8)), (11, (5, 7, 9)))
        self.assertEqual([len(self.judge(net, 3, depth, cover)) for depth in (3, 4, FORTY)], [1, 2, 2])

    def test_against_a_plain_trial(self):
        turns = brought = others = idle = 0
        for net, k in many_nets():
            for cover in lean_covers(net, k, range(4)):
                own = depth_by(net, cover)
                for depth in (own, own + 1, FORTY):
                    covers = self.judge(net, k, depth, cover)
                    turns = max(turns, len(covers) - 1)
                    idle += len(covers) == 1
                    others += len(covers) > 1 and not all(is_least_cut(net, *table) for table in cover)
                    for ahead, behind in itertools.pairwise(covers):
                        brought += not set(dict(behind)) <= set(dict(ahead))
        # Several turns, turns that bring new tables, covers of cuts that are no least ones, covers without a good turn.
        self.assertGreater(turns, 3)
        self.assertGreater(brought, 30)
        self.assertGreater(others, 100)
        self.assertGreater(idle, 100)

    def test_the_first_of_several_good_turns(self):
        several = 0
        for net, k in itertools.islice(many_nets(), 0, None, 3):
            for cover in lean_covers(net, k, range(3)):
                good = [turn for turn, told in good_turns(net, k, FORTY, cover)]
                self.assertEqual(eased(net, k, FORTY, cover)[1][:1], tuple(good[:1]))
                several += len(good) > 1
        self.assertGreater(several, 50)

    def test_cuts_that_are_no_least_ones(self):
        # The least cuts are all other ones than the table's; those that leave as many tables are not good.
        net = (2, ((8, 0, 1), (6, 0, 2)), (3,))
        self.assertEqual(eased(net, 3, 9, ((3, (0, 1, 2)), (2, (0, 1)))[::-1]), (((3, (0, 1)),), ((3, (0, 1)),)))
        self.assertEqual(eased(net, 3, 9, ((3, (0, 1)),)), (((3, (0, 1)),), ()))
        self.assertEqual(eased((2, ((8, 0, 0),), (2,)), 2, 1, ((2, (0, 1)),)), (((2, (0, 1)),), ()))

    def test_every_lean_cover_of_small_nets(self):
        nets = [
            (2, ((8, 0, 1), (6, 0, 2), (9, 2, 3)), (4, 3)), (3, ((8, 0, 1), (8, 3, 2), (6, 3, 4)), (5,)),
            (1, ((9, 0, 0), (9, 1, 1), (9, 2, 2)), (3,)), (2, ((8, 0, 1), (6, 0, 2), (9, 3, 1)), (4, 0)),
        ]
        for net in nets:
            for k in (2, 3):
                lean = [cover for cover in all_covers(net, k) if plain_leaned(net, cover) == cover]
                for cover in lean:
                    for depth in (plain_depth(net, cover), FORTY):
                        self.judge(net, k, depth, cover)

    def test_eased_again_it_stays(self):
        for net, k in itertools.islice(many_nets(), 0, None, 4):
            for cover in lean_covers(net, k, range(3)):
                for depth in (depth_by(net, cover), FORTY):
                    told = eased(net, k, depth, cover)[0]
                    self.assertEqual(eased(net, k, depth, told), (told, ()))

    def test_somewhat_beyond_the_bounds(self):
        for k in (1, 5):
            for net in (tree(8), doubled_chain(2, 18), ladder(9, 10)):
                cover = plain_cover(net, k)
                self.assertLessEqual(len(eased(net, k, FORTY, cover)[0]), len(cover))

    def test_the_same_asked_again(self):
        nets = [tree(8), ladder(6, 10), crossed(12), random_net(4, 6, 11), woven_net(92, 5, 6), (2, (), (1,))]
        asked = [(net, k, depth, cover) for net in nets for k in (2, 3, 4)
                 for cover in lean_covers(net, k, range(3)) for depth in (depth_by(net, cover), FORTY)]
        first = [eased(*question) for question in asked]
        again = [eased(*question) for question in asked[::-1]]
        self.assertEqual(first, again[::-1])

    def test_nothing_is_changed(self):
        for net, k in itertools.islice(many_nets(), 0, None, 7):
            for cover in lean_covers(net, k, range(2)):
                kept = repr((net, cover))
                eased(net, k, FORTY, cover)
                self.assertEqual(repr((net, cover)), kept)


if __name__ == "__main__":
    unittest.main()
