"""Ways and cones [7], and what [2] says of them."""

import itertools
import unittest

from helper import (
    FORTY, all_ways, chain, changed_things, doubled_chain, is_plain, junk, ladder, nested, nets_at_bounds, small_nets,
    tree,
)
from tablecover.nets import wires_in
from tablecover.ways import cone, is_way

# Wires 0, 1, 2; 3 takes 0 and 1; 4 takes 1 twice; 5 takes 3 and 4; 6 takes 5 and 0.
NET = (3, ((8, 0, 1), (6, 1, 1), (14, 3, 4), (7, 5, 0)), (6,))


class IsWay(unittest.TestCase):
    def test_ways(self):
        for wire, way in (
            (0, (0,)), (2, (2,)), (3, (0, 3)), (3, (1, 3)), (4, (1, 4)), (5, (0, 3, 5)), (5, (1, 3, 5)), (5, (1, 4, 5)),
            (6, (0, 6)), (6, (0, 3, 5, 6)), (6, (1, 4, 5, 6)),
        ):
            with self.subTest(way=way):
                self.assertIs(is_way(NET, wire, way), True)

    def test_no_ways(self):
        for why, wire, way in (
            ("the empty one", 6, ()),
            ("the empty one to an input", 0, ()),
            ("not begun at an input", 5, (3, 5)),
            ("the gate alone", 3, (3,)),
            ("a step that is no place", 5, (0, 4, 5)),
            ("a last step that is no place", 5, (1, 5)),
            ("a first step that is no place", 3, (2, 3)),
            ("a step from above", 3, (0, 6, 3)),
            ("an input behind another", 1, (0, 1)),
            ("an input behind itself", 0, (0, 0)),
            ("a gate behind itself", 3, (0, 3, 3)),
            ("turned round", 3, (3, 0)),
            ("another input", 0, (1,)),
            ("another end", 5, (0, 3)),
            ("an end beyond", 3, (0, 3, 5)),
            ("an end beyond an input", 0, (0, 3)),
            ("a wire that is not there", 7, (7,)),
            ("a step that is not there", 6, (0, 7, 6)),
            ("a start below 0", 6, (-1, 6)),
            ("a gate by its number from behind", 6, (0, -4, 5, 6)),
            ("an end by its number from behind", 6, (0, -1)),
            ("a number of forty figures", 6, (FORTY, 6)),
            ("a number of forty figures as step", 6, (0, FORTY, 6)),
        ):
            with self.subTest(why):
                self.assertIs(is_way(NET, wire, way), False)

    def test_truths_and_other_things_in_the_place_of_wires(self):
        for wire, way in (
            (0, (False,)), (1, (True,)), (3, (False, 3)), (3, (True, 3)), (3, (0, "3")), (3, ("0", 3)), (3, (None, 3)),
            (3, ((0,), 3)), (3, ([0], 3)), (3, (0, [3])), (3, ({}, 3)), (3, (0, (3,))), (3, (0, 3, None)),
            (3, [0, 3]), (0, [0]), (3, "03"), (3, {0: 0, 1: 3}), (3, {0: 3, 3: 0}), (0, 0), (3, ((0, 3),)), (3, None),
        ):
            with self.subTest(way=way):
                self.assertIs(is_way(NET, wire, way), False)
        one_gate = (1, ((9, 0, 0),), (1,))
        self.assertIs(is_way(one_gate, 1, (0, 1)), True)
        self.assertIs(is_way(one_gate, 1, (0, True)), False)
        self.assertIs(is_way(one_gate, 1, (False, 1)), False)

    def test_anything(self):
        for thing in junk():
            for wire in range(7):
                self.assertIs(is_way(NET, wire, thing), False, repr(thing)[:60])
                self.assertIs(is_way(NET, wire, (thing, wire)), (thing, wire) in ((0, 3), (1, 3), (1, 4), (0, 6))
                              and type(thing) is int)
        self.assertIs(is_way(NET, 3, (nested(lambda thing: [thing], 29), 3)), False)

    def test_all_tuples_of_wires_in_small_nets(self):
        nets = [NET, tree(4), ladder(2, 3), doubled_chain(2, 3), chain(2, 4), (3, (), (0,)), (1, (), (0,))]
        for net in nets:
            wires = range(wires_in(net))
            ways = {wire: set(all_ways(net, wire)) for wire in wires}
            for size in range(5):
                for thing in itertools.product(wires, repeat=size):
                    for wire in wires:
                        self.assertIs(is_way(net, wire, thing), thing in ways[wire])

    def test_long_ways(self):
        for net in (chain(8, 16), doubled_chain(1, 16), ladder(2, 16)):
            way = tuple(range(net[0] - 1, wires_in(net)))
            self.assertIs(is_way(net, way[-1], way), True)
            self.assertIs(is_way(net, way[-1], way[1:]), False)
            self.assertIs(is_way(net, way[-1], way[:-1]), False)
            self.assertIs(is_way(net, way[-1], way + way[-1:]), False)
            self.assertIs(is_way(net, way[-1], list(way)), False)

    def test_nothing_is_changed(self):
        for wire in (0, 6):
            self.assertEqual(changed_things(lambda thing: is_way(NET, wire, thing), junk()), [])

    def test_the_same_asked_again(self):
        asked = [(wire, way) for wire in range(7) for way in all_ways(NET, 6) + all_ways(NET, 3)]
        first = [is_way(NET, wire, way) for wire, way in asked]
        again = [is_way(NET, wire, way) for wire, way in asked[::-1]]
        self.assertEqual(first, again[::-1])


class Cone(unittest.TestCase):
    def test_cones(self):
        for wire, told in (
            (0, (0,)), (1, (1,)), (2, (2,)), (3, (0, 1, 3)), (4, (1, 4)), (5, (0, 1, 3, 4, 5)), (6, (0, 1, 3, 4, 5, 6)),
        ):
            self.assertEqual(cone(NET, wire), told)

    def test_chains_and_trees(self):
        self.assertEqual(cone(doubled_chain(3, 5), 7), (2, 3, 4, 5, 6, 7))
        self.assertEqual(cone(doubled_chain(3, 5), 4), (2, 3, 4))
        self.assertEqual(cone(doubled_chain(8, 16), 23), tuple(range(7, 24)))
        self.assertEqual(cone(tree(8), 14), tuple(range(15)))
        self.assertEqual(cone(tree(8), 12), (0, 1, 2, 3, 8, 9, 12))
        self.assertEqual(cone(tree(8), 13), (4, 5, 6, 7, 10, 11, 13))
        self.assertEqual(cone(chain(8, 16), 23), tuple(range(24)))
        self.assertEqual(cone(chain(8, 16), 8), (0, 7, 8))

    def test_all_wires_on_ways(self):
        for net in itertools.chain(small_nets(), nets_at_bounds(12)):
            for wire in range(wires_in(net)):
                told = cone(net, wire)
                self.assertTrue(is_plain(told))
                self.assertEqual(told, tuple(sorted({step for way in all_ways(net, wire) for step in way})))
                self.assertEqual(told, cone(net, wire))


if __name__ == "__main__":
    unittest.main()
