"""Contents [12], their idle places [13], and what [2] says of them."""

import itertools
import random
import unittest

from helper import (
    all_rows, all_ways, chain, cuts_with_more, doubled_chain, gates_of, is_plain, ladder, nets_at_bounds,
    plain_content, random_net, small_nets, tells_by_ways, tree,
)
from tablecover.contents import content, idle, without
from tablecover.cuts import cuts_of
from tablecover.nets import row_of, wires_in, worths

# Wires 0, 1, 2; 3 is 0 and 1; 4 is 1 unlike 2; 5 is 3 or 4; 6 is not 5; 7 is 0 but not 6.
NET = (3, ((8, 0, 1), (6, 1, 2), (14, 3, 4), (5, 5, 5), (2, 0, 6)), (6, 7))


def random_telling(chance, net, wire, size):
    """So many wires, or all, in any order, that tell the wire; the wire itself or wires above it may be among them."""
    parts = [(wire,), tuple(sorted({way[0] for way in all_ways(net, wire)}))]
    if wire >= net[0]:
        parts += cuts_of(net, wire, 4)
    part = chance.choice([part for part in parts if len(part) <= size])
    others = [other for other in range(wires_in(net)) if other not in part]
    wires = list(part) + chance.sample(others, min(size - len(part), len(others)))
    return tuple(chance.sample(wires, len(wires)))


class Content(unittest.TestCase):
    def judge(self, net, wire, wires, rows):
        told = content(net, wire, wires)
        self.assertTrue(is_plain(told))
        self.assertEqual(told, plain_content(net, wire, wires, rows), (net, wire, wires))

    def test_by_a_gates_two_places(self):
        for kind in range(16):
            net = (2, ((kind, 0, 1), (kind, 1, 0), (kind, 0, 2)), (2,))
            bits = tuple(kind // 2 ** at % 2 for at in range(4))
            self.assertEqual(content(net, 2, (0, 1)), bits)
            self.assertEqual(content(net, 3, (1, 0)), bits)
            self.assertEqual(content(net, 4, (0, 2)), bits)
            self.assertEqual(content(net, 2, (1, 0)), (bits[0], bits[2], bits[1], bits[3]))

    def test_one_place_twice(self):
        for kind in range(16):
            net = (1, ((kind, 0, 0),), (1,))
            self.assertEqual(content(net, 1, (0,)), (kind % 2, kind // 8))

    def test_ordinary_ones(self):
        self.assertEqual(content(NET, 3, (0, 1)), (0, 0, 0, 1))
        self.assertEqual(content(NET, 4, (1, 2)), (0, 1, 1, 0))
        self.assertEqual(content(NET, 5, (0, 1, 2)), (0, 0, 1, 1, 1, 1, 0, 1))
        self.assertEqual(content(NET, 5, (2, 1, 0)), (0, 1, 1, 0, 0, 1, 1, 1))
        self.assertEqual(content(NET, 6, (5,)), (1, 0))
        self.assertEqual(content(NET, 6, (3, 4)), (1, 0, 0, 0))
        self.assertEqual(content(NET, 7, (0, 6)), (0, 1, 0, 0))
        self.assertEqual(content(NET, 7, (6, 0)), (0, 0, 1, 0))

    def test_inputs(self):
        self.assertEqual(content(NET, 0, (0,)), (0, 1))
        self.assertEqual(content(NET, 1, (1, 0)), (0, 1, 0, 1))
        self.assertEqual(content(NET, 1, (0, 1)), (0, 0, 1, 1))
        self.assertEqual(content(NET, 2, (7, 2, 3)), (0, 0, 1, 1, 0, 0, 1, 1))
        self.assertEqual(content((1, (), (0,)), 0, (0,)), (0, 1))

    def test_the_wire_itself_among_them(self):
        for wire in range(8):
            self.assertEqual(content(NET, wire, (wire,)), (0, 1))
        self.assertEqual(content(NET, 5, (3, 4, 5)), (0, 0, 0, 0, 1, 1, 1, 1))
        self.assertEqual(content(NET, 5, (5, 3, 4)), (0, 1, 0, 1, 0, 1, 0, 1))
        self.assertEqual(content(NET, 5, (0, 5)), (0, 0, 1, 1))

    def test_wires_above_it(self):
        self.assertEqual(content(NET, 3, (7, 0, 5, 1)), (0,) * 10 + (1, 1, 0, 0, 1, 1))
        self.assertEqual(content(NET, 3, (7, 6, 3)), (0, 0, 0, 0, 1, 1, 1, 1))

    def test_wires_above_one_another(self):
        # Wire 5 would be made of 3 and 4; what is held of it counts, whatever they are.
        self.assertEqual(content(NET, 6, (3, 4, 5)), (1, 1, 1, 1, 0, 0, 0, 0))
        self.assertEqual(content(NET, 6, (5, 3, 4)), (1, 0, 1, 0, 1, 0, 1, 0))
        self.assertEqual(content(NET, 5, (0, 1, 3, 2)), (0, 0, 1, 1, 1, 1, 1, 1, 1, 1, 0, 0, 1, 1, 1, 1))

    def test_eight_wires(self):
        self.assertEqual(content(tree(8), 14, tuple(range(8))), (0,) * 255 + (1,))
        odd = tuple(bin(number).count("1") % 2 for number in range(256))
        self.assertEqual(content(chain(8, 7), 14, tuple(range(8))), odd)
        self.assertEqual(content(chain(8, 7), 14, (3, 0, 7, 1, 6, 2, 5, 4)), odd)
        self.assertEqual(content(tree(8), 14, (12, 13, 0, 1, 2, 3, 8, 9)), (0, 0, 0, 1) * 64)

    def test_all_sets_in_all_orders(self):
        for net in itertools.islice(small_nets(), 0, 120, 3):
            if wires_in(net) > 6:
                continue
            rows = all_rows(net)
            for wire in range(wires_in(net)):
                ways = all_ways(net, wire)
                for size in (1, 2, 3):
                    for wires in itertools.permutations(range(wires_in(net)), size):
                        if tells_by_ways(ways, wires):
                            self.judge(net, wire, wires, rows)

    def test_one_to_eight_wires_at_the_bounds(self):
        chance = random.Random(12)
        for net in nets_at_bounds(16):
            rows = [tuple(chance.randrange(2) for at in range(net[0])) for turn in range(3)]
            for wire in range(0, wires_in(net), 3):
                for size in range(1, 9):
                    self.judge(net, wire, random_telling(chance, net, wire, size), rows)

    def test_cuts_rising_or_not(self):
        chance = random.Random(13)
        for net in nets_at_bounds(12):
            rows = [tuple(chance.randrange(2) for at in range(net[0])) for turn in range(2)]
            for gate in gates_of(net):
                for cut in cuts_with_more(chance, net, gate, 4)[:12]:
                    self.judge(net, gate, cut, rows)
                    self.judge(net, gate, cut[::-1], rows)

    def test_at_each_row_of_the_inputs(self):
        for net in (NET, random_net(3, 5, 9), ladder(4, 8), chain(6, 10), doubled_chain(2, 5)):
            for gate in gates_of(net):
                for cut in cuts_of(net, gate, 4):
                    self.at_rows(net, gate, cut)
                    self.at_rows(net, gate, cut[::-1])
                    self.at_rows(net, gate, cut + (gate,))

    def at_rows(self, net, gate, wires):
        held = content(net, gate, wires)
        for number in range(2 ** net[0]):
            told = worths(net, row_of(net, number))
            self.assertEqual(held[sum(told[wire] * 2 ** at for at, wire in enumerate(wires))], told[gate])

    def test_somewhat_beyond_the_bounds(self):
        for wires in (tuple(range(9)), tuple(range(10))):
            self.judge(tree(8), 14, wires, [(0,) * 8, (1,) * 8])

    def test_the_same_asked_again(self):
        asked = [(NET, gate, cut) for gate in gates_of(NET) for cut in cuts_of(NET, gate, 4)]
        first = [content(*question) for question in asked]
        again = [content(*question) for question in asked[::-1]]
        self.assertEqual(first, again[::-1])


def plain_idle(held):
    """The idle places by the words of [13]."""
    many = len(bin(len(held))) - 3
    return tuple(
        place for place in range(many)
        if all(held[one] == held[other]
               for one in range(len(held)) for other in range(len(held)) if one ^ other == 2 ** place)
    )


def stretched(held, place):
    """The content with one more place, an idle one, put in ahead of the place."""
    told = []
    for number in range(2 * len(held)):
        low, high = number % 2 ** place, number // 2 ** (place + 1)
        told.append(held[low + high * 2 ** place])
    return tuple(told)


def random_content(chance, many):
    return tuple(chance.randrange(2) for turn in range(2 ** many))


class Idle(unittest.TestCase):
    def test_ordinary_ones(self):
        self.assertEqual(idle((0, 1)), ())
        self.assertEqual(idle((1, 0)), ())
        self.assertEqual(idle((0, 0)), (0,))
        self.assertEqual(idle((1, 1)), (0,))
        self.assertEqual(idle((0, 0, 0, 1)), ())
        self.assertEqual(idle((0, 1, 1, 0)), ())
        self.assertEqual(idle((0, 1, 0, 1)), (1,))
        self.assertEqual(idle((0, 0, 1, 1)), (0,))
        self.assertEqual(idle((1, 1, 1, 1)), (0, 1))
        self.assertEqual(idle((0, 0, 1, 1, 0, 0, 1, 1)), (0, 2))
        self.assertEqual(idle((0, 1, 1, 0, 0, 1, 1, 0)), (2,))

    def test_all_idle(self):
        for many in range(1, 9):
            for worth in (0, 1):
                self.assertEqual(idle((worth,) * 2 ** many), tuple(range(many)))

    def test_none_idle(self):
        for many in range(1, 9):
            size = 2 ** many
            self.assertEqual(idle(tuple(bin(number).count("1") % 2 for number in range(size))), ())
            self.assertEqual(idle((0,) * (size - 1) + (1,)), ())
            self.assertEqual(idle((0,) + (1,) * (size - 1)), ())

    def test_one_place_alone_counts(self):
        for many in range(1, 9):
            for place in range(many):
                held = tuple(number // 2 ** place % 2 for number in range(2 ** many))
                self.assertEqual(idle(held), tuple(other for other in range(many) if other != place))

    def test_one_worth_makes_the_difference(self):
        for many in range(1, 9):
            for number in (0, 2 ** many // 2, 2 ** many - 1):
                held = tuple(int(at == number) for at in range(2 ** many))
                self.assertEqual(idle(held), ())

    def test_all_contents_of_up_to_three_places(self):
        for many in (1, 2, 3):
            for held in itertools.product((0, 1), repeat=2 ** many):
                told = idle(held)
                self.assertTrue(is_plain(told))
                self.assertEqual(told, plain_idle(held))

    def test_contents_of_up_to_eight_places(self):
        chance = random.Random(14)
        for many in range(1, 9):
            for turn in range(6):
                held = random_content(chance, chance.randrange(many))
                while len(held) < 2 ** many:
                    held = stretched(held, chance.randrange(len(bin(len(held))) - 2))
                self.assertEqual(idle(held), plain_idle(held))
                self.assertGreaterEqual(len(idle(held)), 1)

    def test_the_same_asked_again(self):
        chance = random.Random(15)
        asked = [random_content(chance, many) for many in range(1, 9)]
        first = [idle(held) for held in asked]
        again = [idle(held) for held in asked[::-1]]
        self.assertEqual(first, again[::-1])


class Without(unittest.TestCase):
    def test_ordinary_ones(self):
        self.assertEqual(without((0, 0, 1, 1), 0), (0, 1))
        self.assertEqual(without((0, 1, 0, 1), 1), (0, 1))
        self.assertEqual(without((0, 0, 0, 0), 0), (0, 0))
        self.assertEqual(without((1, 1, 1, 1), 1), (1, 1))
        self.assertEqual(without((0, 0, 1, 1, 1, 1, 0, 0), 0), (0, 1, 1, 0))
        self.assertEqual(without((0, 1, 0, 1, 0, 0, 0, 0), 1), (0, 1, 0, 0))
        self.assertEqual(without((0, 1, 0, 0, 0, 1, 0, 0), 2), (0, 1, 0, 0))

    def test_a_place_put_in_and_taken_away(self):
        chance = random.Random(16)
        for many in range(1, 8):
            for place in range(many + 1):
                for turn in range(4):
                    held = random_content(chance, many)
                    more = stretched(held, place)
                    self.assertIn(place, idle(more))
                    told = without(more, place)
                    self.assertTrue(is_plain(told))
                    self.assertEqual(told, held)

    def test_the_places_behind_it_move_up(self):
        for many in range(2, 9):
            for place in range(many):
                for counted in range(many):
                    if counted != place:
                        held = tuple(number // 2 ** counted % 2 for number in range(2 ** many))
                        moved = counted - 1 if counted > place else counted
                        told = tuple(number // 2 ** moved % 2 for number in range(2 ** many // 2))
                        self.assertEqual(without(held, place), told)

    def test_the_same_asked_again(self):
        held = stretched(random_content(random.Random(17), 5), 3)
        self.assertEqual(without(held, 3), without(held, 3))
        self.assertEqual(without((0, 0, 1, 1), 0), (0, 1))
        self.assertEqual(without(held, 3), without(held, 3))


if __name__ == "__main__":
    unittest.main()
