"""Choices and the plain cover [15], and what [2] and [3] say of them."""

import itertools
import unittest

from helper import (
    chain, doubled_chain, gates_of, is_plain, ladder, nets_at_bounds, plain_choices, plain_cuts, plain_depths,
    random_net, small_nets, tree,
)
from tablecover.covers import cover_holds, depth_by, leaned
from tablecover.plain import choice, plain_cover


def cover_of_choices(net, choices):
    """The plain cover by the words of [15], of the choices of all gates."""
    tables = {}
    waiting = list(net[2])
    while waiting:
        wire = waiting.pop()
        if wire >= net[0] and wire not in tables:
            tables[wire] = choices[wire]
            waiting += choices[wire]
    return tuple(sorted(tables.items()))


def depths_in(net, cover):
    """The depth of each gate that has a table."""
    told = {wire: 0 for wire in range(net[0])}
    for gate, cut in cover:
        told[gate] = 1 + max(told[wire] for wire in cut)
    return {gate: told[gate] for gate, cut in cover}


class Choice(unittest.TestCase):
    def test_the_depth_first(self):
        # By (3, 4) the gate 5 would be two deep, by all three inputs it is one deep.
        net = (3, ((8, 0, 1), (6, 1, 2), (14, 3, 4)), (5,))
        self.assertEqual(choice(net, 5, 2), (3, 4))
        self.assertEqual(choice(net, 5, 3), (0, 1, 2))
        self.assertEqual(choice(tree(8), 14, 3), (12, 13))
        self.assertEqual(choice(tree(8), 14, 4), (12, 13))
        self.assertEqual(choice(tree(8), 12, 4), (0, 1, 2, 3))

    def test_then_the_fewest_wires(self):
        # For 4 the gate 10 is two deep by (8, 9), as by (4, 5, 9) and (6, 7, 8), which go ahead in the cuts' order.
        net = (6, ((8, 0, 1), (8, 2, 3), (8, 4, 5), (8, 6, 7), (8, 9, 8)), (10,))
        self.assertEqual(plain_cuts(net, 10, 4)[-3:], ((4, 5, 9), (6, 7, 8), (8, 9)))
        self.assertEqual(choice(net, 10, 4), (8, 9))
        # For 3 the gate 9 is two deep itself.
        self.assertEqual(choice(net, 10, 3), (6, 7, 8))

    def test_then_the_first(self):
        # The gate 8 is two deep by each of its cuts, all of whose gates are one deep.
        net = (4, ((8, 0, 1), (8, 2, 3), (9, 4, 4), (9, 5, 5), (8, 6, 7)), (8,))
        self.assertEqual(plain_cuts(net, 8, 2), ((4, 5), (4, 7), (5, 6), (6, 7)))
        self.assertEqual(choice(net, 8, 2), (4, 5))
        for k in (2, 3, 4):
            net = doubled_chain(1, 9)
            for gate in gates_of(net):
                self.assertEqual(choice(net, gate, k), (0,))

    def test_against_a_plain_trial(self):
        settled = [0, 0, 0]
        for net in itertools.chain(small_nets(), nets_at_bounds(12)):
            for k in (2, 3, 4):
                depths = plain_depths(net, k)
                for gate in gates_of(net):
                    told = choice(net, gate, k)
                    self.assertTrue(is_plain(told))
                    steps = plain_choices(net, gate, k, depths)
                    self.assertEqual([told], steps[-1], (net, gate, k))
                    for at in range(3):
                        settled[at] += len(steps[at]) > len(steps[at + 1])
        # Somewhere each of the three, the depth, the number of wires and the order, settles it.
        self.assertGreater(min(settled), 20)


class PlainCover(unittest.TestCase):
    def judge(self, net, k):
        told = plain_cover(net, k)
        self.assertTrue(is_plain(told))
        self.assertIs(cover_holds(net, k, told), True, (net, k, told))
        self.assertEqual(leaned(net, told), told)
        depths = plain_depths(net, k)
        for gate, depth in depths_in(net, told).items():
            self.assertEqual(depth, depths[gate], (net, k, gate))
        self.assertEqual(depth_by(net, told), max(depths[out] for out in net[2]))
        return told

    def test_ordinary_ones(self):
        net = (3, ((8, 0, 1), (6, 1, 2), (14, 3, 4), (1, 5, 5), (7, 3, 2)), (6, 7))
        self.assertEqual(plain_cover(net, 2), ((3, (0, 1)), (4, (1, 2)), (6, (3, 4)), (7, (2, 3))))
        self.assertEqual(plain_cover(net, 3), ((6, (0, 1, 2)), (7, (0, 1, 2))))
        inputs = tuple((8 + at, (2 * at, 2 * at + 1)) for at in range(4))
        self.assertEqual(plain_cover(tree(8), 2), inputs + ((12, (8, 9)), (13, (10, 11)), (14, (12, 13))))
        self.assertEqual(plain_cover(tree(8), 4), ((12, (0, 1, 2, 3)), (13, (4, 5, 6, 7)), (14, (12, 13))))

    def test_outs_that_are_inputs_alone(self):
        for k in (2, 3, 4):
            self.assertEqual(plain_cover((1, (), (0,)), k), ())
            self.assertEqual(plain_cover((8, tree(8)[1], (0, 7, 7)), k), ())

    def test_some_outs_are_inputs_or_alike(self):
        for k in (2, 3, 4):
            self.assertEqual(plain_cover((2, ((8, 0, 1), (6, 0, 2)), (1, 2, 2, 0)), k), ((2, (0, 1)),))

    def test_small_nets(self):
        for net in small_nets():
            for k in (2, 3, 4):
                told = self.judge(net, k)
                depths = plain_depths(net, k)
                choices = {gate: plain_choices(net, gate, k, depths)[-1][0] for gate in gates_of(net)}
                self.assertEqual(told, cover_of_choices(net, choices))

    def test_nets_at_the_bounds(self):
        for k, count in ((2, 16), (3, 16), (4, 12)):
            for net in nets_at_bounds(count):
                told = self.judge(net, k)
                self.assertEqual(told, cover_of_choices(net, {gate: choice(net, gate, k) for gate in gates_of(net)}))

    def test_somewhat_beyond_the_bounds(self):
        for k in (1, 5):
            for net in (tree(8), doubled_chain(2, 18), ladder(9, 10)):
                told = plain_cover(net, k)
                self.assertEqual([gate for gate, cut in told][-1], net[2][0])
                self.assertEqual(choice(net, net[2][0], k), told[-1][1])

    def test_the_same_asked_again(self):
        nets = [tree(8), ladder(6, 10), chain(8, 12), random_net(4, 6, 11), (2, (), (1,))]
        asked = [(net, k) for net in nets for k in (2, 3, 4)]
        first = [(plain_cover(net, k), [choice(net, gate, k) for gate in gates_of(net)]) for net, k in asked]
        again = [(plain_cover(net, k), [choice(net, gate, k) for gate in gates_of(net)]) for net, k in asked[::-1]]
        self.assertEqual(first, again[::-1])


if __name__ == "__main__":
    unittest.main()
