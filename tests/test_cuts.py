"""Cuts [8], ways past and insides [9], and what [2] says of them."""

import itertools
import time
import unittest

from helper import (
    FORTY, all_ways, chain, changed_things, doubled_chain, gates_of, is_plain, junk, ladder, nets_at_bounds, plain_cuts,
    plain_inside, small_nets, tells_by_ways, tree,
)
from tablecover.cuts import cuts_of, inside, is_cut, is_least_cut, tells, way_past
from tablecover.nets import wires_in
from tablecover.ways import cone, is_way

# Wires 0, 1, 2; 3 takes 0 and 1; 4 takes 1 and 2; 5 takes 3 and 4; 6 takes 5 twice; 7 takes 3 and 2.
NET = (3, ((8, 0, 1), (6, 1, 2), (14, 3, 4), (1, 5, 5), (7, 3, 2)), (6, 7))


def lesser_sets(gate, most):
    for size in range(most + 1):
        yield from itertools.combinations(range(gate), size)


class Tells(unittest.TestCase):
    def test_the_wire_itself(self):
        for net in (NET, tree(4), (1, (), (0,))):
            for wire in range(wires_in(net)):
                self.assertIs(tells(net, wire, (wire,)), True)
        self.assertIs(tells(NET, 5, (5, 0)), True)
        self.assertIs(tells(NET, 5, (7, 5)), True)

    def test_no_wires(self):
        for wire in range(8):
            self.assertIs(tells(NET, wire, ()), False)

    def test_ordinary_ones(self):
        self.assertIs(tells(NET, 5, (3, 4)), True)
        self.assertIs(tells(NET, 5, (0, 1, 2)), True)
        self.assertIs(tells(NET, 5, (3, 1, 2)), True)
        self.assertIs(tells(NET, 5, (3, 2)), False)
        self.assertIs(tells(NET, 5, (3,)), False)
        self.assertIs(tells(NET, 6, (5,)), True)
        self.assertIs(tells(NET, 0, (1,)), False)
        self.assertIs(tells(NET, 0, (1, 0)), True)

    def test_in_any_order(self):
        for wires in ((3, 4), (0, 1, 2), (3, 1, 2), (0, 4), (3, 2)):
            for turned in itertools.permutations(wires):
                self.assertIs(tells(NET, 5, turned), tells(NET, 5, wires))

    def test_beside_and_above(self):
        self.assertIs(tells(NET, 5, (6, 7)), False)
        self.assertIs(tells(NET, 3, (2, 4, 5, 6, 7)), False)
        self.assertIs(tells(NET, 3, (7, 1, 2, 0)), True)
        self.assertIs(tells(NET, 3, (0, 5)), False)
        self.assertIs(tells(NET, 1, (3, 4, 5)), False)

    def test_all_sets_in_small_nets(self):
        for net in itertools.chain(itertools.islice(small_nets(), 160), [NET, tree(4), ladder(3, 4), chain(2, 5)]):
            if wires_in(net) > 8:
                continue
            for wire in range(wires_in(net)):
                ways = all_ways(net, wire)
                for wires in lesser_sets(wires_in(net), wires_in(net)):
                    self.assertIs(tells(net, wire, wires), tells_by_ways(ways, wires))


class IsCut(unittest.TestCase):
    def both(self, gate, thing, cut, least):
        with self.subTest(gate=gate, thing=repr(thing)[:60]):
            self.assertIs(is_cut(NET, gate, thing), cut)
            self.assertIs(is_least_cut(NET, gate, thing), least)

    def test_cuts(self):
        for gate, cut in (
            (3, (0, 1)), (5, (3, 4)), (5, (0, 1, 2)), (5, (1, 2, 3)), (5, (0, 1, 4)), (6, (5,)), (7, (2, 3)),
        ):
            self.both(gate, cut, True, True)

    def test_cuts_that_are_no_least_ones(self):
        for gate, cut in (
            (3, (0, 1, 2)), (5, (0, 3, 4)), (5, (2, 3, 4)), (6, (0, 5)), (6, (3, 4, 5)), (7, (0, 1, 2, 3)),
            (7, (2, 3, 4)), (7, (2, 3, 5, 6)), (7, (0, 1, 2, 6)),
        ):
            self.both(gate, cut, True, False)

    def test_not_rising(self):
        for gate, thing in ((3, (1, 0)), (5, (4, 3)), (5, (3, 3, 4)), (5, (3, 4, 4)), (6, (5, 5)), (5, (0, 2, 1))):
            self.both(gate, thing, False, False)

    def test_none(self):
        for gate in gates_of(NET):
            self.both(gate, (), False, False)

    def test_no_lesser_numbers(self):
        for gate, thing in (
            (3, (3,)), (3, (0, 1, 3)), (3, (0, 1, 4)), (5, (3, 4, 5)), (5, (3, 4, 6)), (7, (7,)), (7, (2, 3, 7)),
            (7, (2, 3, 8)), (6, (-1, 5)), (6, (5, FORTY)), (6, (-FORTY, 5)), (7, (-1,)), (7, (-6, -5)),
        ):
            self.both(gate, thing, False, False)

    def test_what_does_not_tell(self):
        for gate, thing in (
            (3, (0,)), (3, (1,)), (3, (2,)), (5, (3,)), (5, (2, 3)), (5, (0, 1)), (6, (4,)), (7, (2, 5)),
        ):
            self.both(gate, thing, False, False)

    def test_wrong_kinds(self):
        for gate, thing in (
            (3, [0, 1]), (3, (False, 1)), (3, (0, True)), (3, (False, True)), (3, "01"), (3, {0: 0, 1: 1}),
            (3, ("0", "1")),
            (3, ((0, 1),)), (3, ((0,), (1,))), (3, (0, None)), (6, [5]), (6, 5), (6, (5, None)), (6, ([5],)), (6, None),
        ):
            self.both(gate, thing, False, False)

    def test_anything(self):
        for thing in junk():
            for gate in gates_of(NET):
                self.both(gate, thing, False, False)
                right = type(thing) is int and thing == 0 and gate == 3
                self.both(gate, (thing, 1), right, right)

    def test_nothing_is_changed(self):
        for gate in gates_of(NET):
            self.assertEqual(changed_things(lambda thing: is_cut(NET, gate, thing), junk()), [])
            self.assertEqual(changed_things(lambda thing: is_least_cut(NET, gate, thing), junk()), [])

    def test_all_sets_in_small_nets(self):
        for net in itertools.chain(itertools.islice(small_nets(), 160), [NET, tree(4), ladder(3, 4), chain(2, 5)]):
            for gate in gates_of(net):
                ways = all_ways(net, gate)
                for wires in lesser_sets(gate, 4):
                    cut = tells_by_ways(ways, wires)
                    least = cut and not any(
                        tells_by_ways(ways, wires[:at] + wires[at + 1:]) for at in range(len(wires))
                    )
                    self.assertIs(is_cut(net, gate, wires), cut)
                    self.assertIs(is_least_cut(net, gate, wires), least)

    def test_cuts_of_more_wires(self):
        net = tree(8)
        self.assertIs(is_least_cut(net, 14, tuple(range(8))), True)
        self.assertIs(is_cut(net, 14, tuple(range(9))), True)
        self.assertIs(is_least_cut(net, 14, tuple(range(9))), False)
        self.assertIs(is_cut(net, 14, tuple(range(7))), False)
        self.assertIs(is_cut(net, 14, tuple(range(14))), True)
        self.assertIs(is_cut(net, 14, tuple(range(15))), False)


class CutsOf(unittest.TestCase):
    def test_ordinary_ones(self):
        self.assertEqual(cuts_of(NET, 3, 2), ((0, 1),))
        self.assertEqual(cuts_of(NET, 5, 2), ((3, 4),))
        self.assertEqual(cuts_of(NET, 5, 3), ((0, 1, 2), (0, 1, 4), (1, 2, 3), (3, 4)))
        self.assertEqual(cuts_of(NET, 6, 2), ((3, 4), (5,)))
        self.assertEqual(cuts_of(NET, 6, 4), ((0, 1, 2), (0, 1, 4), (1, 2, 3), (3, 4), (5,)))
        self.assertEqual(cuts_of(NET, 7, 3), ((0, 1, 2), (2, 3)))

    def test_one_place_twice(self):
        self.assertEqual(cuts_of((2, ((1, 1, 1),), (2,)), 2, 2), ((1,),))
        self.assertEqual(cuts_of(doubled_chain(2, 4), 5, 4), ((1,), (2,), (3,), (4,)))

    def test_a_place_that_is_below_the_other(self):
        net = (1, ((1, 0, 0), (8, 0, 1)), (2,))
        self.assertEqual(cuts_of(net, 2, 2), ((0,),))
        net = (2, ((8, 0, 1), (6, 2, 0)), (3,))
        self.assertEqual(cuts_of(net, 3, 2), ((0, 1), (0, 2)))

    def test_trees(self):
        self.assertEqual(cuts_of(tree(4), 6, 2), ((4, 5),))
        self.assertEqual(cuts_of(tree(4), 6, 3), ((0, 1, 5), (2, 3, 4), (4, 5)))
        self.assertEqual(cuts_of(tree(4), 6, 4), ((0, 1, 2, 3), (0, 1, 5), (2, 3, 4), (4, 5)))

    def compare(self, nets, k):
        for net in nets:
            for gate in gates_of(net):
                told = cuts_of(net, gate, k)
                self.assertEqual(told, plain_cuts(net, gate, k), (net, gate, k))
                self.assertTrue(is_plain(told))
                self.assertGreaterEqual(len(told), 1)

    def test_against_all_sets_in_small_nets(self):
        for k in (2, 3, 4):
            self.compare(itertools.chain(small_nets(), [NET]), k)

    def test_against_all_sets_at_the_bounds(self):
        self.compare(nets_at_bounds(16), 2)
        self.compare(nets_at_bounds(16), 3)
        self.compare(nets_at_bounds(12), 4)

    def test_each_is_a_least_cut_of_its_cone(self):
        for k, count in ((2, 16), (3, 16), (4, 12)):
            for net in nets_at_bounds(count):
                for gate in gates_of(net):
                    below = cone(net, gate)
                    for cut in cuts_of(net, gate, k):
                        self.assertLessEqual(len(cut), k)
                        self.assertTrue(is_least_cut(net, gate, cut))
                        self.assertLessEqual(set(cut), set(below))

    def test_in_good_time(self):
        begun = time.monotonic()
        for k, count in ((2, 16), (3, 16), (4, 12)):
            for net in nets_at_bounds(count):
                for gate in gates_of(net):
                    cuts_of(net, gate, k)
        self.assertLess(time.monotonic() - begun, 60)

    def test_somewhat_beyond_the_bounds(self):
        self.assertEqual(cuts_of(tree(4), 6, 1), ())
        self.assertEqual(cuts_of(doubled_chain(1, 20), 20, 1), tuple((wire,) for wire in range(20)))
        self.assertEqual(cuts_of(tree(8), 14, 5), plain_cuts(tree(8), 14, 5))
        for net in (chain(8, 18), ladder(10, 16)):
            self.assertEqual(cuts_of(net, 25, 4), plain_cuts(net, 25, 4))

    def test_the_same_asked_again(self):
        asked = [(net, gate, k) for net in (NET, tree(8), ladder(4, 9)) for gate in gates_of(net) for k in (2, 3, 4)]
        first = [cuts_of(*question) for question in asked]
        again = [cuts_of(*question) for question in asked[::-1]]
        self.assertEqual(first, again[::-1])


class WayPast(unittest.TestCase):
    def judge(self, net, gate, wires):
        told = way_past(net, gate, wires)
        if tells_by_ways(all_ways(net, gate), wires):
            self.assertIsNone(told, (net, gate, wires))
        else:
            self.assertTrue(is_plain(told))
            self.assertIn(told, all_ways(net, gate))
            self.assertTrue(is_way(net, gate, told))
            self.assertFalse(set(told) & set(wires), (net, gate, wires))

    def test_ordinary_ones(self):
        self.assertEqual(way_past(NET, 3, (0,)), (1, 3))
        self.assertEqual(way_past(NET, 3, (1,)), (0, 3))
        self.assertIsNone(way_past(NET, 3, (0, 1)))
        self.assertIn(way_past(NET, 3, ()), ((0, 3), (1, 3)))
        self.assertEqual(way_past(NET, 6, (1, 3)), (2, 4, 5, 6))
        self.assertEqual(way_past(NET, 6, (0, 4)), (1, 3, 5, 6))
        self.assertIsNone(way_past(NET, 6, (5,)))
        self.assertIsNone(way_past(NET, 6, (0, 5)))
        self.assertIsNone(way_past(NET, 6, (6,)))
        self.assertEqual(way_past(NET, 7, (0, 1)), (2, 7))
        self.assertEqual(way_past(NET, 7, (1, 2, 5, 6)), (0, 3, 7))

    def test_a_turn_that_leads_nowhere(self):
        # Past wire 4 the only way to 6 begins at 2: from 0 and 1 all ways go by 4.
        net = (3, ((8, 0, 1), (9, 3, 3), (6, 2, 2), (8, 4, 5)), (6,))
        self.assertEqual(way_past(net, 6, (4,)), (2, 5, 6))
        self.assertEqual(way_past(net, 6, (5,))[-3:], (3, 4, 6))

    def test_all_sets_in_small_nets(self):
        for net in itertools.chain(small_nets(), [NET, tree(4), ladder(3, 4)]):
            if wires_in(net) > 9:
                continue
            for gate in gates_of(net):
                for wires in lesser_sets(gate, gate):
                    self.judge(net, gate, wires)

    def test_at_the_bounds(self):
        for net in nets_at_bounds(16):
            gate = wires_in(net) - 1
            self.judge(net, gate, ())
            for wires in itertools.islice(lesser_sets(gate, 2), 0, None, 7):
                self.judge(net, gate, wires)
            for cut in cuts_of(net, gate, 3):
                self.assertIsNone(way_past(net, gate, cut))
                for at in range(len(cut)):
                    self.judge(net, gate, cut[:at] + cut[at + 1:])

    def test_the_same_asked_again(self):
        asked = [(NET, gate, wires) for gate in gates_of(NET) for wires in lesser_sets(gate, 3)]
        first = [way_past(*question) for question in asked]
        again = [way_past(*question) for question in asked[::-1]]
        self.assertEqual(first, again[::-1])


class Inside(unittest.TestCase):
    def test_ordinary_ones(self):
        self.assertEqual(inside(NET, 3, (0, 1)), (3,))
        self.assertEqual(inside(NET, 5, (3, 4)), (5,))
        self.assertEqual(inside(NET, 5, (0, 1, 4)), (3, 5))
        self.assertEqual(inside(NET, 5, (0, 1, 2)), (3, 4, 5))
        self.assertEqual(inside(NET, 6, (0, 1, 2)), (3, 4, 5, 6))
        self.assertEqual(inside(NET, 6, (5,)), (6,))
        self.assertEqual(inside(NET, 7, (0, 1, 2, 3)), (7,))
        self.assertEqual(inside(doubled_chain(1, 16), 16, (0,)), tuple(range(1, 17)))

    def test_cuts_in_many_nets(self):
        for net in itertools.chain(small_nets(), nets_at_bounds(12)):
            for gate in gates_of(net):
                for cut in cuts_of(net, gate, 4) + (cone(net, gate)[:-1],):
                    told = inside(net, gate, cut)
                    self.assertTrue(is_plain(told))
                    self.assertEqual(told, plain_inside(net, gate, cut))

    def test_the_same_asked_again(self):
        asked = [(NET, gate, cut) for gate in gates_of(NET) for cut in cuts_of(NET, gate, 3)]
        first = [inside(*question) for question in asked]
        again = [inside(*question) for question in asked[::-1]]
        self.assertEqual(first, again[::-1])


if __name__ == "__main__":
    unittest.main()
