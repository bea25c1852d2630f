"""Whether two nets do the same [22], and what [2] says of it."""

import itertools
import random
import unittest

from helper import (
    chain, doubled_chain, is_number, ladder, nets_at_bounds, only_at, plain_first_unlike, random_net, rebuilt,
    small_nets, tree,
)
from tablecover.alike import first_unlike
from tablecover.errors import CoverError, NoMatch


def never(many):
    """A net whose out has the worth 0 at each row."""
    return (many, ((0, 0, 0),), (many,))


def net_of(many, outs, seed=0):
    """A net of so many inputs and outs."""
    net = random_net(seed, many, 9)
    return (many, net[1], tuple((many + 8 - at) % (many + 9) for at in range(outs)))


def with_other_kind(seed, net):
    """The net with one gate of another kind."""
    chance = random.Random(seed)
    many, gates, outs = net
    at = chance.randrange(len(gates))
    kind, one, other = gates[at]
    return (many, gates[:at] + (((kind + chance.randrange(1, 16)) % 16, one, other),) + gates[at + 1:], outs)


class FirstUnlike(unittest.TestCase):
    def judge(self, one, other):
        expected = plain_first_unlike(one, other)
        for pair in ((one, other), (other, one)):
            told = first_unlike(*pair)
            self.assertEqual(told, expected, pair)
            self.assertTrue(told is None or is_number(told))
        return expected

    def test_ordinary_ones(self):
        self.assertIsNone(first_unlike((2, ((8, 0, 1),), (2,)), (2, ((8, 1, 0),), (2,))))
        # And, or: unlike at the rows 1 and 2. And, unlike: at 1, 2 and 3. And, not and: at each row.
        self.assertEqual(first_unlike((2, ((8, 0, 1),), (2,)), (2, ((14, 0, 1),), (2,))), 1)
        self.assertEqual(first_unlike((2, ((8, 0, 1),), (2,)), (2, ((7, 0, 1),), (2,))), 0)
        self.assertEqual(first_unlike((2, ((14, 0, 1),), (2,)), (2, ((6, 0, 1),), (2,))), 3)
        # The input 0 counts 1, the input 1 counts 2, the input 2 counts 4.
        self.assertEqual(first_unlike((3, (), (0,)), never(3)), 1)
        self.assertEqual(first_unlike((3, (), (1,)), never(3)), 2)
        self.assertEqual(first_unlike((3, (), (2,)), never(3)), 4)
        self.assertEqual(first_unlike((3, (), (2,)), (3, (), (1,))), 2)

    def test_each_row_alone(self):
        for many in range(1, 9):
            for number in range(2 ** many):
                net = only_at(many, number)
                self.assertEqual(first_unlike(net, never(many)), number)
                self.assertEqual(first_unlike(never(many), net), number)
                self.assertIsNone(first_unlike(net, net))

    def test_the_least_of_several_rows(self):
        chance = random.Random(22)
        for many in range(1, 9):
            for turn in range(40):
                first, second = chance.randrange(2 ** many), chance.randrange(2 ** many)
                told = None if first == second else min(first, second)
                self.assertEqual(first_unlike(only_at(many, first), only_at(many, second)), told)

    def test_one_of_several_outs_is_unlike(self):
        for many in range(1, 9):
            for outs in range(1, 9):
                for at in range(outs):
                    number = (37 * many + 11 * at) % 2 ** many
                    one, other = only_at(many, number), (many, only_at(many, number)[1] + never(many)[1], None)
                    inputs = tuple(place % many for place in range(outs))
                    one = one[:2] + (inputs[:at] + one[2] + inputs[at + 1:],)
                    zero = (many + len(other[1]) - 1,)
                    other = other[:2] + (inputs[:at] + zero + inputs[at + 1:],)
                    self.assertEqual(first_unlike(one, other), number)
                    self.assertEqual(first_unlike(other, one), number)

    def test_the_order_of_the_outs(self):
        one = (3, ((8, 0, 1),), (0, 1, 3))
        self.assertIsNone(first_unlike(one, one))
        self.assertEqual(first_unlike(one, (3, ((8, 0, 1),), (1, 0, 3))), 1)
        self.assertEqual(first_unlike(one, (3, ((8, 0, 1),), (0, 3, 1))), 2)

    def test_nets_that_do_the_same(self):
        for seed, net in enumerate(itertools.chain(small_nets(), nets_at_bounds(9), nets_at_bounds(16))):
            self.assertIsNone(first_unlike(net, net))
            self.assertIsNone(self.judge(net, rebuilt(seed, net)))

    def test_against_a_plain_trial(self):
        seen = {}
        for seed in range(500):
            many = 1 + seed % 8
            net = random_net(seed, many, 1 + seed % 16)
            told = self.judge(net, with_other_kind(seed, net))
            place = "none" if told is None else {0: "first", 2 ** many - 1: "last"}.get(told, "between")
            seen[place] = seen.get(place, 0) + 1
        self.assertEqual(sorted(seen), ["between", "first", "last", "none"])
        self.assertGreater(min(seen.values()), 5)

    def test_drawn_nets(self):
        for many, outs in itertools.product(range(1, 9), repeat=2):
            for seed in range(3):
                self.judge(net_of(many, outs, seed), net_of(many, outs, seed + 50))

    def test_many_gates_against_none(self):
        self.assertIsNone(first_unlike(doubled_chain(8, 16, kind=1), (8, (), (7,))))
        self.assertEqual(first_unlike(doubled_chain(8, 15, kind=1), (8, (), (7,))), 0)
        self.assertIsNone(first_unlike((8, (), tuple(range(8))), (8, ladder(8, 16)[1], tuple(range(8)))))

    def test_somewhat_beyond_the_bounds(self):
        self.assertIsNone(first_unlike(chain(10, 18), chain(10, 18)))
        self.assertEqual(first_unlike((9, (), (8,)), never(9)), 256)

    def test_the_same_asked_again(self):
        nets = [tree(4), chain(4, 5), random_net(1, 4, 9)[:2] + ((5,),), (4, (), (2,)), (4, (), (2, 1)), (3, (), (0,))]
        asked = list(itertools.product(nets, repeat=2))
        first = [answer(*question) for question in asked]
        again = [answer(*question) for question in asked[::-1]]
        self.assertEqual(first, again[::-1])
        self.assertIn("no match", first)


def answer(one, other):
    try:
        return first_unlike(one, other)
    except NoMatch:
        return "no match"


class Refused(unittest.TestCase):
    def refused(self, one, other):
        for pair in ((one, other), (other, one)):
            with self.assertRaises(NoMatch) as held:
                first_unlike(*pair)
            self.assertIs(type(held.exception), NoMatch)
            self.assertIsInstance(held.exception, CoverError)

    def test_not_as_many_inputs(self):
        for many, more in itertools.permutations(range(1, 9), 2):
            self.refused((many, (), (0,)), (more, (), (0,)))
            self.refused(net_of(many, 3), net_of(more, 3))

    def test_not_as_many_outs(self):
        for outs, more in itertools.permutations(range(1, 9), 2):
            self.refused((2, (), (0,) * outs), (2, (), (0,) * more))
            self.refused(net_of(4, outs), net_of(4, more))

    def test_neither(self):
        self.refused((1, (), (0, 0)), (2, (), (0,)))
        self.refused((2, (), (0, 0)), (1, (), (0,)))

    def test_as_many_wires_are_not_as_many_inputs(self):
        self.refused((2, ((8, 0, 1),), (2,)), (3, (), (2,)))

    def test_as_many_gates_or_not_makes_no_difference(self):
        self.assertIsNone(first_unlike((2, ((8, 0, 1),) * 16, (0,)), (2, (), (0,))))


if __name__ == "__main__":
    unittest.main()
