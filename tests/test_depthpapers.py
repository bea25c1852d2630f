"""The told paper of depths [11], and what [2] says of it."""

import itertools
import unittest

from helper import chain, doubled_chain, gates_of, is_plain, ladder, nets_at_bounds, random_net, small_nets, tree
from tablecover.depthpapers import depth_paper
from tablecover.depths import depths


def is_plain_way(net, wire, way):
    """Whether it is a way, by the words of [7]."""
    many, gates, outs = net
    return (
        0 <= way[0] < many
        and way[-1] == wire
        and all(step >= many and ahead in gates[step - many][1:] for ahead, step in zip(way, way[1:]))
    )


class DepthPapers(unittest.TestCase):
    def judge(self, net, k):
        """The paper's walk along the clauses of [11]."""
        paper = depth_paper(net, k)
        self.assertTrue(is_plain(paper))
        self.assertEqual(len(paper), len(net[1]))
        labels = depths(net, k)
        self.assertEqual((0,) * net[0] + tuple(label for label, ways in paper), labels)
        for gate, (label, ways) in zip(gates_of(net), paper):
            if label == 1:
                self.assertEqual(ways, ())
            else:
                self.judge_ways(net, k, gate, labels, ways)
        return labels

    def judge_ways(self, net, k, gate, labels, ways):
        self.assertEqual(len(ways), k + 1, (net, k, gate))
        for way in ways:
            self.assertTrue(is_plain_way(net, gate, way), (net, k, gate, way))
        for one, other in itertools.combinations(ways, 2):
            for wire in set(one) & set(other):
                self.assertGreaterEqual(labels[wire], labels[gate] - 1, (net, k, gate, one, other))

    def test_no_gate(self):
        for k in (2, 3, 4):
            self.assertEqual(depth_paper((1, (), (0,)), k), ())
            self.assertEqual(depth_paper((8, (), (7, 7)), k), ())

    def test_gates_of_depth_one(self):
        for k in (2, 3, 4):
            self.assertEqual(depth_paper((2, ((8, 0, 1), (6, 2, 1)), (3,)), k), ((1, ()), (1, ())))
            self.assertEqual(depth_paper(doubled_chain(2, 12), k), ((1, ()),) * 12)

    def test_three_inputs_by_tables_of_two(self):
        first, second = depth_paper((3, ((8, 0, 1), (8, 3, 2)), (4,)), 2)
        self.assertEqual(first, (1, ()))
        self.assertEqual(second[0], 2)
        self.assertEqual(sorted(second[1]), [(0, 3, 4), (1, 3, 4), (2, 4)])

    def test_five_inputs_by_tables_of_four(self):
        paper = depth_paper(chain(5, 4), 4)
        self.assertEqual(paper[:3], ((1, ()),) * 3)
        self.assertEqual(paper[3][0], 2)
        self.assertEqual(sorted(paper[3][1]), [(0, 5, 6, 7, 8), (1, 6, 7, 8), (2, 7, 8), (3, 8), (4, 5, 6, 7, 8)])

    def test_ways_that_must_make_room(self):
        # Tried one behind another, without taking any step back, some ways would be in others' way.
        net = (6, ((8, 0, 1), (8, 2, 3), (8, 6, 7), (8, 7, 4), (8, 8, 9), (6, 8, 5), (8, 10, 11), (9, 12, 9)), (13,))
        for k in (2, 3, 4):
            self.judge(net, k)

    def test_small_nets(self):
        for net in small_nets():
            for k in (2, 3, 4):
                self.judge(net, k)

    def test_nets_at_the_bounds(self):
        for k, count in ((2, 16), (3, 16), (4, 12)):
            deepest = 0
            for net in nets_at_bounds(count):
                deepest = max(deepest, *self.judge(net, k))
            self.assertGreaterEqual(deepest, 4)

    def test_many_nets_of_eight_inputs(self):
        for seed in range(150):
            for k, count in ((2, 16), (3, 16), (4, 12)):
                self.judge(random_net(seed, 8, count), k)

    def test_somewhat_beyond_the_bounds(self):
        self.judge(ladder(8, 18), 4)
        self.judge(ladder(8, 16), 5)
        for seed in range(40):
            self.judge(random_net(seed, 8, 16), 1)

    def test_the_same_asked_again(self):
        asked = [(net, k) for net in (tree(8), ladder(6, 10), chain(8, 12)) for k in (2, 3, 4)]
        first = [depth_paper(net, k) for net, k in asked]
        again = [depth_paper(net, k) for net, k in asked[::-1]]
        self.assertEqual(first, again[::-1])


if __name__ == "__main__":
    unittest.main()
