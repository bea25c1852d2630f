"""Nets, rows and worths [4, 5], and what [2] says of them."""

import itertools
import unittest

from helper import FORTY, all_small_nets, chain, changed_things, is_plain, junk, ladder, random_net, tree
from tablecover.nets import is_net, outs_at, row_of, wires_in, worths

AND = (2, ((8, 0, 1),), (2,))
SIXTEEN = tuple((6, at, at + 1) for at in range(16))

RIGHT = [
    (1, (), (0,)),
    (8, (), (7,)),
    (8, (), (0,)),
    AND,
    (1, ((0, 0, 0),), (1,)),
    (1, ((15, 0, 0),), (1,)),
    (2, ((8, 1, 1),), (2,)),
    (2, ((8, 0, 0), (8, 2, 0), (8, 0, 3), (8, 4, 4)), (5,)),
    (2, SIXTEEN, (17,)),
    (8, tuple((9, at + 7, 0) for at in range(16)), (23,)),
    (8, tuple((9, 0, at + 7) for at in range(16)), (0,)),
    (2, ((8, 0, 1),), (0, 1, 2, 0, 1, 2, 0, 1)),
    (2, ((8, 0, 1),), (0, 1)),
    (2, ((8, 0, 1),), (2,) * 8),
    (1, (), (0,) * 8),
]

WRONG = {
    "no input": (0, (), (0,)),
    "less than no input": (-1, (), (0,)),
    "nine inputs": (9, (), (0,)),
    "inputs of forty figures": (FORTY, (), (0,)),
    "a seventeenth gate": (2, SIXTEEN + ((6, 0, 1),), (17,)),
    "kind 16": (2, ((16, 0, 1),), (2,)),
    "kind -1": (2, ((-1, 0, 1),), (2,)),
    "kind of forty figures": (2, ((FORTY, 0, 1),), (2,)),
    "own wire as one": (2, ((8, 2, 1),), (2,)),
    "own wire as other": (2, ((8, 0, 2),), (2,)),
    "own wire of the second gate": (2, ((8, 0, 1), (8, 3, 0)), (2,)),
    "own wire of the second gate as other": (2, ((8, 0, 1), (8, 0, 3)), (2,)),
    "a later gate as a place": (2, ((8, 0, 3), (8, 0, 1)), (3,)),
    "place -1": (2, ((8, -1, 1),), (2,)),
    "other place -1": (2, ((8, 0, -1),), (2,)),
    "place of forty figures": (2, ((8, 0, FORTY),), (2,)),
    "no out": (2, ((8, 0, 1),), ()),
    "nine outs": (2, ((8, 0, 1),), (2,) * 9),
    "an out that is not there": (2, ((8, 0, 1),), (3,)),
    "an out that is not there, without gates": (2, (), (2,)),
    "a last out that is not there": (2, ((8, 0, 1),), (0, 1, 2, 3)),
    "out -1": (2, ((8, 0, 1),), (-1,)),
    "out of forty figures": (2, ((8, 0, 1),), (FORTY,)),
    "a truth as many": (True, (), (0,)),
    "a truth as kind": (2, ((True, 0, 1),), (2,)),
    "a truth as one": (2, ((8, False, 1),), (2,)),
    "a truth as other": (2, ((8, 0, True),), (2,)),
    "a truth as out": (2, ((8, 0, 1),), (True,)),
    "a truth as a further out": (2, ((8, 0, 1),), (2, False)),
    "None as many": (None, (), (0,)),
    "None as gates": (2, None, (0,)),
    "None as outs": (2, (), None),
    "None as gate": (2, (None,), (0,)),
    "None as kind": (2, ((None, 0, 1),), (0,)),
    "None as place": (2, ((8, None, 1),), (0,)),
    "None as out": (2, (), (None,)),
    "a text as many": ("2", (), (0,)),
    "a text as gates": (2, "", (0,)),
    "a text as outs": (2, (), "0"),
    "a text as gate": (2, ("801",), (0,)),
    "a text as kind": (2, (("8", 0, 1),), (0,)),
    "a text as place": (2, ((8, "0", 1),), (0,)),
    "a text as out": (2, (), ("0",)),
    "a list as net": [2, ((8, 0, 1),), (2,)],
    "a list as gates": (2, [(8, 0, 1)], (2,)),
    "an empty list as gates": (2, [], (1,)),
    "a list as gate": (2, ([8, 0, 1],), (2,)),
    "a list as outs": (2, ((8, 0, 1),), [2]),
    "a list as many": ([2], ((8, 0, 1),), (2,)),
    "a dict as net": {0: 2, 1: (), 2: (0,)},
    "a dict as gates": (2, {}, (0,)),
    "a dict as gate": (2, ({0: 8, 1: 0, 2: 1},), (0,)),
    "a dict as outs": (2, (), {0: 0}),
    "a number as gates": (2, 0, (0,)),
    "a number as gate": (2, (8,), (0,)),
    "a number as outs": (2, (), 0),
    "a tuple as many": ((2,), (), (0,)),
    "a tuple as place": (2, ((8, (0,), 1),), (2,)),
    "a tuple as out": (2, (), ((0,),)),
    "too short a net": (2, ()),
    "too long a net": (2, (), (0,), ()),
    "too short a gate": (2, ((8, 0),), (0,)),
    "too long a gate": (2, ((8, 0, 1, 1),), (0,)),
    "an empty gate": (2, ((),), (0,)),
    "a wrong gate behind right ones": (2, ((8, 0, 1), (8, 0, 1), (16, 0, 1)), (0,)),
}


class IsNet(unittest.TestCase):
    def test_right_ones(self):
        for net in RIGHT:
            with self.subTest(net=net):
                self.assertIs(is_net(net), True)

    def test_each_number_of_inputs_gates_outs_and_each_kind(self):
        for many in range(-1, 11):
            self.assertIs(is_net((many, (), (0,))), 1 <= many <= 8)
        for count in range(19):
            self.assertIs(is_net((2, ((6, 0, 1),) * count, (0,))), count <= 16)
        for count in range(11):
            self.assertIs(is_net((2, (), (0,) * count)), 1 <= count <= 8)
        for kind in range(-2, 19):
            self.assertIs(is_net((2, ((kind, 0, 1),), (0,))), 0 <= kind <= 15)

    def test_each_place_and_out_of_a_gate(self):
        for many, count in ((1, 1), (3, 2), (8, 16)):
            gates = ((6, 0, 0),) * (count - 1)
            for wire in range(-2, many + count + 2):
                there = 0 <= wire < many + count - 1
                self.assertIs(is_net((many, gates + ((6, wire, 0),), (0,))), there)
                self.assertIs(is_net((many, gates + ((6, 0, wire),), (0,))), there)
                self.assertIs(is_net((many, gates + ((6, 0, 0),), (wire,))), 0 <= wire < many + count)

    def test_wrong_ones(self):
        for why, thing in WRONG.items():
            with self.subTest(why):
                self.assertIs(is_net(thing), False)

    def test_anything(self):
        for thing in junk():
            with self.subTest(thing=repr(thing)[:60]):
                self.assertIs(is_net(thing), False)
                self.assertIs(is_net((thing, (), (0,))), thing == 1 and thing is not True)
                self.assertIs(is_net((2, (thing,), (0,))), False)
                self.assertIs(is_net((2, ((8, 0, thing),), (0,))), thing in (0, 1) and type(thing) is int)
                self.assertIs(is_net((2, (), (thing,))), thing in (0, 1) and type(thing) is int)

    def test_nothing_is_changed(self):
        self.assertEqual(changed_things(is_net, junk() + list(WRONG.values())), [])


class Rows(unittest.TestCase):
    def test_how_many_wires(self):
        self.assertEqual(wires_in((1, (), (0,))), 1)
        self.assertEqual(wires_in((8, (), (0,))), 8)
        self.assertEqual(wires_in(AND), 3)
        self.assertEqual(wires_in(chain(8, 16)), 24)

    def test_all_rows_by_their_numbers(self):
        self.assertEqual([row_of((1, (), (0,)), number) for number in range(2)], [(0,), (1,)])
        self.assertEqual(
            [row_of((3, (), (0,)), number) for number in range(8)],
            [(0, 0, 0), (1, 0, 0), (0, 1, 0), (1, 1, 0), (0, 0, 1), (1, 0, 1), (0, 1, 1), (1, 1, 1)],
        )

    def test_a_row_has_the_worths_of_its_number(self):
        for many in range(1, 9):
            net = chain(many, 3)
            rows = [row_of(net, number) for number in range(2 ** many)]
            for number, row in enumerate(rows):
                self.assertTrue(is_plain(row))
                self.assertEqual(row, tuple(number // 2 ** at % 2 for at in range(many)))
            self.assertEqual(len(set(rows)), 2 ** many)

    def test_a_row_of_the_same_number_is_told_the_same(self):
        for number in range(256):
            self.assertEqual(row_of(chain(8, 1), number), row_of(tree(8), number))


def plain_worth(net, row, wire):
    """The worth by the point's own words, wire by wire from above."""
    many, gates, outs = net
    if wire < many:
        return row[wire]
    kind, one, other = gates[wire - many]
    return kind // 2 ** (plain_worth(net, row, one) + 2 * plain_worth(net, row, other)) % 2


class Worths(unittest.TestCase):
    def test_each_kind_at_all_four_worths(self):
        for kind in range(16):
            net = (2, ((kind, 0, 1),), (2,))
            for number, (first, second) in enumerate(((0, 0), (1, 0), (0, 1), (1, 1))):
                worth = kind // 2 ** number % 2
                self.assertEqual(worths(net, (first, second)), (first, second, worth))
                self.assertEqual(outs_at(net, (first, second)), (worth,))

    def test_kinds_that_have_names(self):
        rows = [(0, 0), (1, 0), (0, 1), (1, 1)]
        for kind, told in (
            (0, (0, 0, 0, 0)), (15, (1, 1, 1, 1)), (8, (0, 0, 0, 1)), (14, (0, 1, 1, 1)),
            (6, (0, 1, 1, 0)), (10, (0, 1, 0, 1)), (12, (0, 0, 1, 1)), (2, (0, 1, 0, 0)), (4, (0, 0, 1, 0)),
        ):
            net = (2, ((kind, 0, 1),), (2,))
            self.assertEqual(tuple(outs_at(net, row)[0] for row in rows), told)
            swapped = (2, ((kind, 1, 0),), (2,))
            self.assertEqual(tuple(outs_at(swapped, (b, a))[0] for a, b in rows), told)

    def test_both_places_alike(self):
        for kind in range(16):
            net = (1, ((kind, 0, 0),), (1,))
            self.assertEqual(worths(net, (0,)), (0, kind % 2))
            self.assertEqual(worths(net, (1,)), (1, kind // 8))

    def test_no_gate(self):
        net = (3, (), (2, 0, 0))
        self.assertEqual(worths(net, (1, 0, 0)), (1, 0, 0))
        self.assertEqual(outs_at(net, (1, 0, 0)), (0, 1, 1))

    def test_outs_in_their_order(self):
        net = (2, ((8, 0, 1), (14, 0, 1)), (3, 2, 0, 3, 1))
        self.assertEqual(outs_at(net, (1, 0)), (1, 0, 1, 1, 0))

    def test_many_nets_at_all_rows(self):
        nets = [random_net(seed, 1 + seed % 5, seed % 11) for seed in range(60)]
        for net in nets + [tree(4), ladder(3, 8), random_net(1, 8, 16)]:
            for number in range(2 ** net[0]):
                row = row_of(net, number)
                told = tuple(plain_worth(net, row, wire) for wire in range(wires_in(net)))
                self.assertEqual(worths(net, row), told)
                self.assertEqual(outs_at(net, row), tuple(told[out] for out in net[2]))

    def test_tuples_of_whole_numbers(self):
        for net in itertools.chain(all_small_nets(2, 2), [chain(8, 16)]):
            row = row_of(net, 1)
            self.assertTrue(is_plain(worths(net, row)))
            self.assertTrue(is_plain(outs_at(net, row)))
            self.assertEqual(len(worths(net, row)), wires_in(net))
            self.assertIs(type(wires_in(net)), int)

    def test_the_same_asked_again(self):
        nets = [random_net(seed, 4, 9) for seed in range(8)]
        asked = [(net, row_of(net, number)) for net in nets for number in range(16)]
        first = [(worths(net, row), outs_at(net, row)) for net, row in asked]
        again = [(worths(net, row), outs_at(net, row)) for net, row in reversed(asked)]
        self.assertEqual(first, again[::-1])


if __name__ == "__main__":
    unittest.main()
