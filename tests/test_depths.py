"""Depths [10], and what [2] says of them."""

import itertools
import unittest

from helper import chain, doubled_chain, is_plain, ladder, nets_at_bounds, plain_depths, random_net, small_nets, tree
from tablecover.depths import depths
from tablecover.nets import wires_in


class Depths(unittest.TestCase):
    def test_inputs_alone(self):
        for k in (2, 3, 4):
            self.assertEqual(depths((1, (), (0,)), k), (0,))
            self.assertEqual(depths((8, (), (0,)), k), (0,) * 8)

    def test_one_gate(self):
        for k in (2, 3, 4):
            self.assertEqual(depths((2, ((8, 0, 1),), (2,)), k), (0, 0, 1))
            self.assertEqual(depths((1, ((0, 0, 0),), (0,)), k), (0, 1))

    def test_a_tree(self):
        inputs = (0,) * 8
        self.assertEqual(depths(tree(8), 2), inputs + (1, 1, 1, 1, 2, 2, 3))
        self.assertEqual(depths(tree(8), 3), inputs + (1, 1, 1, 1, 2, 2, 3))
        self.assertEqual(depths(tree(8), 4), inputs + (1, 1, 1, 1, 1, 1, 2))

    def test_chains_of_fresh_inputs(self):
        inputs = (0,) * 8
        self.assertEqual(depths(chain(8, 7), 2), inputs + (1, 2, 3, 4, 5, 6, 7))
        self.assertEqual(depths(chain(8, 7), 3), inputs + (1, 1, 2, 2, 3, 3, 4))
        self.assertEqual(depths(chain(8, 7), 4), inputs + (1, 1, 1, 2, 2, 2, 3))

    def test_few_inputs_are_never_deep(self):
        for many in (1, 2, 3, 4):
            for k in range(max(2, many), 5):
                net = random_net(many, many, 12)
                self.assertEqual(depths(net, k), (0,) * many + (1,) * 12)

    def test_one_place_twice(self):
        for k in (2, 3, 4):
            self.assertEqual(depths(doubled_chain(3, 12), k), (0,) * 3 + (1,) * 12)

    def test_ways_that_meet_again(self):
        # Wire 6 takes 3 and 5, and 5 takes 3 too: by the wires 2 and 3 it is told at depth 2.
        net = (3, ((8, 0, 1), (6, 2, 3), (6, 4, 2), (14, 3, 5)), (6,))
        self.assertEqual(depths(net, 2), (0, 0, 0, 1, 2, 2, 2))
        self.assertEqual(depths(net, 3), (0, 0, 0, 1, 1, 1, 1))

    def test_the_deepest_wire_of_a_cut_counts(self):
        net = (4, ((8, 0, 1), (8, 4, 2), (8, 5, 3), (8, 0, 6), (8, 7, 1)), (8,))
        self.assertEqual(depths(net, 2), (0, 0, 0, 0, 1, 2, 3, 4, 5))

    def test_small_nets(self):
        for net in small_nets():
            for k in (2, 3, 4):
                self.assertEqual(depths(net, k), plain_depths(net, k), (net, k))

    def test_nets_at_the_bounds(self):
        for k, count in ((2, 16), (3, 16), (4, 12)):
            for net in nets_at_bounds(count):
                told = depths(net, k)
                self.assertEqual(told, plain_depths(net, k), (net, k))
                self.assertTrue(is_plain(told))
                self.assertEqual(len(told), wires_in(net))

    def test_somewhat_beyond_the_bounds(self):
        self.assertEqual(len(depths(ladder(8, 18), 4)), 26)
        self.assertEqual(len(depths(tree(8), 5)), 15)
        self.assertEqual(len(depths(tree(8), 1)), 15)

    def test_the_same_asked_again(self):
        asked = list(itertools.product((tree(8), ladder(6, 10), chain(5, 12)), (2, 3, 4)))
        first = [depths(net, k) for net, k in asked]
        again = [depths(net, k) for net, k in asked[::-1]]
        self.assertEqual(first, again[::-1])


if __name__ == "__main__":
    unittest.main()
