"""Likenesses as they are told [23], and what [2] and [3] say of them."""

import itertools
import unittest

from helper import (
    chain, crossed, doubled_chain, is_plain, ladder, mixed_tree, nets_at_bounds, only_at, plain_first_unlike,
    plain_likeness_holds, random_net, rebuilt, small_nets, tree, woven_net,
)
from tablecover.errors import CoverError, NoMatch
from tablecover.likeness import likeness


def with_outs(net, outs):
    return (net[0], net[1], outs)


def all_outs(net):
    """The net with its last wires as its outs, at most eight."""
    count = net[0] + len(net[1])
    return with_outs(net, tuple(range(count))[-8:])


class Likeness(unittest.TestCase):
    def judge(self, one, other):
        """The nets do the same; a likeness that holds is told of them, and of them the other way about."""
        for first, second in ((one, other), (other, one)):
            told = likeness(first, second)
            self.assertIs(type(told), tuple)
            self.assertTrue(is_plain(told))
            self.assertLessEqual(len(told), 60)
            self.assertTrue(plain_likeness_holds(first, second, told), (first, second, told))

    def test_the_same_net(self):
        for net in itertools.chain(itertools.islice(small_nets(), 0, None, 6), nets_at_bounds(16)):
            self.judge(net, net)
            self.judge(all_outs(net), all_outs(net))

    def test_built_otherwise(self):
        # Unlike of two, by four gates; and of three, from the left and from the right.
        unlike = (2, ((14, 0, 1), (7, 0, 1), (8, 2, 3)), (4,))
        self.judge(unlike, (2, ((6, 0, 1),), (2,)))
        self.judge(unlike, (2, ((9, 1, 0), (1, 2, 2)), (3,)))
        self.judge((3, ((8, 0, 1), (8, 3, 2)), (4,)), (3, ((8, 1, 2), (8, 0, 3)), (4,)))
        self.judge((8, tree(8, 6)[1], (14,)), (8, chain(8, 7)[1], (14,)))
        self.judge((8, tree(8, 14)[1], (14, 14)), (8, chain(8, 7, 14)[1], (14, 14)))

    def test_rebuilt(self):
        for seed, net in enumerate(itertools.chain(itertools.islice(small_nets(), 0, None, 4), nets_at_bounds(10))):
            self.judge(net, rebuilt(seed, net))
        for seed in range(20):
            net = woven_net(seed, 8, 8 + seed % 8)
            self.judge(net, rebuilt(seed, net))

    def test_gates_more_that_do_nothing(self):
        net = (3, ((8, 0, 1), (6, 3, 2)), (4, 3))
        for count in range(1, 15):
            self.judge(net, (3, net[1] + ((9, 4, 0),) * count, (4, 3)))

    def test_gates_that_hand_a_wire_on(self):
        for count in range(1, 17):
            # Kind 10 hands its one on, kind 12 its other.
            self.judge((2, (), (1,)), doubled_chain(2, count, 10))
            self.judge((2, (), (1,)), doubled_chain(2, count, 12))
            self.judge((2, (), (1, 0)), with_outs(chain(2, count, 10), (1 + count, 0)))

    def test_outs_that_are_inputs(self):
        for many in range(1, 9):
            for outs in (tuple(range(many)), (many - 1,) * 8, (0,)):
                self.judge((many, (), outs), (many, (), outs))
                self.judge((many, (), outs), (many, ((8, 0, 0),), outs))
            self.judge((many, (), (0, many - 1)), (many, ((8, 0, 0),), (many, many - 1)))
            self.judge((many, ((14, 0, 0),), (many, many)), (many, ((8, 0, 0),), (0, many)))

    def test_sixteen_gates_against_none(self):
        for many in range(1, 9):
            self.judge(doubled_chain(many, 16), (many, (), (many - 1,)))
            self.judge(with_outs(doubled_chain(many, 16), tuple(range(many + 1, many + 17, 2))),
                       (many, (), (many - 1,) * 8))
            self.judge(with_outs(ladder(many, 16) if many > 1 else chain(1, 16), (0,)), (many, (), (0,)))

    def test_worths_that_are_the_same_at_each_row(self):
        self.judge((2, ((0, 0, 1),), (2,)), (2, ((6, 1, 1),), (2,)))
        self.judge((1, ((15, 0, 0),), (1, 1)), (1, ((8, 0, 0), (9, 0, 1)), (2, 2)))
        self.judge((8, ((0, 0, 1),), (8,) * 8), (8, crossed(15)[1] + ((0, 5, 22),), (23,) * 8))

    def test_eight_inputs_sixteen_gates_eight_outs(self):
        for net in (ladder(8, 16), crossed(16), chain(8, 16), mixed_tree(16), random_net(5, 8, 16)):
            one = all_outs(net)
            swapped = tuple((kind // 4 % 2 * 2 + kind // 2 % 2 * 4 + kind // 8 * 8 + kind % 2, other, place)
                            for kind, place, other in net[1])
            self.judge(one, (8, swapped, one[2]))

    def test_none_where_they_are_unlike(self):
        for many in range(1, 9):
            for number in {0, 1, 2 ** many // 2, 2 ** many - 1}:
                never = (many, ((0, 0, 0),), (many,))
                self.assertIsNone(likeness(only_at(many, number), never))
                self.assertIsNone(likeness(never, only_at(many, number)))
        self.assertIsNone(likeness((2, (), (0,)), (2, (), (1,))))
        self.assertIsNone(likeness((2, (), (0, 0, 1)), (2, (), (0, 0, 0))))
        self.assertIsNone(likeness((8, tree(8, 6)[1], (14,)), (8, tree(8, 14)[1], (14,))))

    def test_just_one_of_the_two_is_told(self):
        alike = 0
        for seed in range(400):
            many = 1 + seed % 4
            one, other = random_net(seed, many, 1 + seed % 6), random_net(seed + 1000, many, 1 + seed % 5)
            one, other = with_outs(one, one[2][:1]), with_outs(other, other[2][:1])
            if plain_first_unlike(one, other) is None:
                self.judge(one, other)
                alike += 1
            else:
                self.assertIsNone(likeness(one, other))
                self.assertIsNone(likeness(other, one))
        self.assertGreater(alike, 20)

    def test_no_match_goes_ahead(self):
        for one, other in (
            ((1, (), (0,)), (2, (), (0,))), ((1, (), (0,)), (1, (), (0, 0))), ((2, (), (0, 0)), (1, (), (0,))),
            (chain(8, 16), chain(7, 16)), (tree(4), with_outs(tree(4), (6, 6))), ((2, (), (1, 0)), (1, (), (0, 0))),
            ((2, ((8, 0, 1),), (2,)), (3, (), (2,))), ((2, (), (1, 0)), (2, (), (0, 1, 0))),
        ):
            for pair in ((one, other), (other, one)):
                with self.assertRaises(NoMatch) as held:
                    likeness(*pair)
                self.assertIs(type(held.exception), NoMatch)
                self.assertIsInstance(held.exception, CoverError)

    def test_the_same_asked_again(self):
        nets = [tree(4), rebuilt(1, tree(4)), chain(4, 5), (4, (), (2,)), (4, (), (2, 1)), (3, (), (0,)), crossed(16),
                rebuilt(2, crossed(9)), crossed(9)]
        asked = list(itertools.product(nets, repeat=2))
        first = [answer(*question) for question in asked]
        again = [answer(*question) for question in asked[::-1]]
        self.assertEqual(first, again[::-1])
        self.assertTrue({None, "no match"} <= set(first))


def answer(one, other):
    try:
        return likeness(one, other)
    except NoMatch:
        return "no match"


if __name__ == "__main__":
    unittest.main()
