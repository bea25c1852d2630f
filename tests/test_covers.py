"""Covers [14], and what [2] says of them."""

import itertools
import unittest

from helper import (
    FORTY, chain, changed_things, doubled_chain, gates_of, is_number, is_plain, junk, ladder, mutations, nested,
    nets_at_bounds, plain_cover_holds, plain_depth, plain_inside, plain_leaned, random_cover, random_net, small_nets,
    tree,
)
from tablecover.covers import cover_holds, depth_by, doubled, leaned
from tablecover.cuts import cuts_of

# Wires 0, 1, 2; 3 takes 0 and 1; 4 takes 1 and 2; 5 takes 3 and 4; 6 takes 5 twice; 7 takes 3 and 2.
NET = (3, ((8, 0, 1), (6, 1, 2), (14, 3, 4), (1, 5, 5), (7, 3, 2)), (6, 7))
COVER = ((3, (0, 1)), (4, (1, 2)), (5, (3, 4)), (6, (5,)), (7, (2, 3)))


def plain_doubled(net, cover):
    insides = [plain_inside(net, gate, cut) for gate, cut in cover]
    return tuple(gate for gate in gates_of(net) if sum(gate in own for own in insides) >= 2)


def many_covers():
    """Nets with k and covers: least cuts or not, needed tables alone or others too."""
    for seed, net in enumerate(itertools.chain(itertools.islice(small_nets(), 0, None, 4))):
        for k in (2, 3, 4):
            yield net, k, random_cover(seed, net, k, least=seed % 2 == 0, needless=seed % 3)
    for k, count in ((2, 16), (3, 16), (4, 12)):
        for seed, net in enumerate(nets_at_bounds(count)):
            for turn in range(3):
                yield net, k, random_cover(10 * seed + turn, net, k, least=turn == 0, needless=2 * turn)


class CoverHolds(unittest.TestCase):
    def holds(self, thing, net=NET, k=2):
        self.assertIs(cover_holds(net, k, thing), True, (net, k, thing))

    def refused(self, thing, net=NET, k=2):
        self.assertIs(cover_holds(net, k, thing), False, (net, k, repr(thing)[:120]))

    def test_least_cuts(self):
        self.holds(COVER)
        self.holds(((3, (0, 1)), (4, (1, 2)), (6, (3, 4)), (7, (2, 3))))
        self.holds(((6, (0, 1, 2)), (7, (0, 1, 2))), k=3)
        self.holds(((3, (0, 1)), (6, (0, 1, 2)), (7, (2, 3))), k=3)

    def test_cuts_that_are_no_least_ones(self):
        self.holds(((3, (0, 1)), (4, (1, 2)), (5, (3, 4)), (6, (0, 5)), (7, (2, 3))))
        self.holds(((3, (0, 1, 2)), (6, (0, 1, 2)), (7, (0, 2, 3))), k=3)
        self.holds(((5, (0, 1, 2)), (6, (0, 2, 5)), (7, (0, 1, 2, 5))), k=4)

    def test_tables_that_are_not_needed(self):
        self.holds(((3, (0, 1)), (6, (0, 1, 2)), (7, (0, 1, 2))), k=3)
        self.holds(((3, (0, 1)), (4, (1, 2)), (5, (3, 4)), (6, (0, 1, 2)), (7, (0, 1, 2))), k=3)
        self.holds(((2, (0, 1)),), net=(2, ((8, 0, 1),), (0,)))

    def test_outs_that_are_inputs_alone(self):
        for net in ((1, (), (0,)), (3, NET[1], (0, 2)), (8, (), (7, 7, 0))):
            for k in (2, 3, 4):
                self.holds((), net, k)
        self.refused((), NET)

    def test_many(self):
        for net, k, cover in many_covers():
            self.assertTrue(plain_cover_holds(net, k, cover))
            self.holds(cover, net, k)

    def test_gates_not_rising(self):
        for turned in itertools.permutations(COVER):
            self.assertIs(cover_holds(NET, 2, turned), turned == COVER)

    def test_a_gate_twice(self):
        for at in range(5):
            self.refused(COVER[:at + 1] + COVER[at:])
        self.refused(((3, (0, 1)), (4, (1, 2)), (5, (3, 4)), (6, (3, 4)), (6, (5,)), (7, (2, 3))))

    def test_a_cut_that_does_not_rise(self):
        for cut in ((1, 0), (0, 0, 1), (0, 1, 1)):
            self.refused(((3, cut),) + COVER[1:], k=4)
        for cut in ((4, 3), (3, 3, 4), (0, 2, 1)):
            self.refused(COVER[:2] + ((5, cut),) + COVER[3:], k=4)

    def test_too_many_wires(self):
        self.refused(COVER[:2] + ((5, (0, 3, 4)),) + COVER[3:])
        self.holds(COVER[:2] + ((5, (0, 3, 4)),) + COVER[3:], k=3)
        self.refused(COVER[:2] + ((5, (0, 2, 3, 4)),) + COVER[3:], k=3)
        self.holds(COVER[:2] + ((5, (0, 2, 3, 4)),) + COVER[3:], k=4)
        self.refused(COVER[:2] + ((5, (0, 1, 2, 3, 4)),) + COVER[3:], k=4)
        self.refused(((6, (0, 1, 2)), (7, (0, 1, 2))), k=2)

    def test_the_gate_itself_or_a_greater_wire(self):
        for cut in ((3,), (0, 1, 3), (0, 1, 4), (0, 1, 7), (0, 1, 8), (7,), (0, 7)):
            self.refused(((3, cut),) + COVER[1:], k=4)

    def test_what_does_not_tell_its_gate(self):
        for cut in ((), (0,), (1,), (2,), (0, 2), (1, 2)):
            self.refused(((3, cut),) + COVER[1:], k=4)
        for cut in ((3,), (4,), (2, 3), (0, 4), (0, 1), (0, 2, 3)):
            self.refused(COVER[:2] + ((5, cut),) + COVER[3:], k=4)

    def test_without_a_table(self):
        for at in range(5):
            self.refused(COVER[:at] + COVER[at + 1:])
        self.refused(())
        self.refused(((3, (0, 1)), (6, (0, 1, 2))), k=3)
        self.refused(((7, (0, 1, 2)),), k=3)
        self.refused(((6, (0, 1, 2)), (7, (2, 3))), k=3)
        # A gate in a cut has its table even where nothing needs that cut.
        self.refused(((5, (3, 4)), (6, (0, 1, 2)), (7, (0, 1, 2))), k=3)
        self.refused(((6, (0, 1, 2)), (7, (0, 1, 2, 4))), k=4)

    def test_wires_that_are_no_gates(self):
        for gate in (0, 1, 2, -1, -5, 8, 9, FORTY, -FORTY):
            for cut in ((0, 1), (0,), (gate,), (gate - 1,)):
                self.refused(((gate, cut),))
                self.refused(COVER + ((gate, cut),))
                self.refused(((gate, cut),) + COVER)
        for cut in ((-1, 0, 1), (0, 1, 8), (0, 1, FORTY), (-FORTY, 0, 1), (-8, -7), (-5, -4)):
            self.refused(((3, cut),) + COVER[1:], k=4)

    def test_truths_and_lists(self):
        one = (1, ((9, 0, 0), (8, 0, 1)), (2,))
        self.holds(((1, (0,)), (2, (0, 1))), one)
        for thing in (
            ((True, (0,)), (2, (0, 1))), ((1, (False,)), (2, (0, 1))), ((1, (0,)), (2, (0, True))),
            ((1, (0,)), (2, (False, 1))), [(1, (0,)), (2, (0, 1))], ([1, (0,)], (2, (0, 1))),
            ((1, [0]), (2, (0, 1))), ((1, (0,)), (2, [0, 1])), ((1, ([0],)), (2, (0, 1))), {1: (0,), 2: (0, 1)},
            ((1, {0: 0}), (2, (0, 1))), ("1", (2, (0, 1))), (("1", (0,)), (2, (0, 1))), ((1, "0"), (2, (0, 1))),
            ((1, 0), (2, (0, 1))), ((1, (0,), ()), (2, (0, 1))), ((1,), (2, (0, 1))), ((), (2, (0, 1))),
            (((0,), 1), (2, (0, 1))), ((1, None), (2, (0, 1))), (None, (2, (0, 1))), (1, (0,), 2, (0, 1)),
        ):
            self.refused(thing, one)

    def test_anything(self):
        for thing in junk():
            self.refused(thing)
            self.refused(thing, (1, (), (0,)))
            self.refused(COVER + (thing,))
            self.refused((thing,) + COVER)
            for at in range(5):
                gate, cut = COVER[at]
                self.refused(COVER[:at] + (thing,) + COVER[at + 1:])
                self.refused(COVER[:at] + ((gate, thing),) + COVER[at + 1:])
                self.refused(COVER[:at] + ((thing, cut),) + COVER[at + 1:])
        self.refused(((7, (0, 1, nested(lambda thing: (thing,), 27))),))

    def test_thirty_deep(self):
        for wrap in (lambda thing: (thing,), lambda thing: [thing], lambda thing: {0: thing}, lambda thing: (3, thing)):
            for depth in range(31):
                self.refused(nested(wrap, depth))

    def test_changed_at_one_place(self):
        right = wrong = 0
        nets = [(NET, 2), (NET, 4), (tree(8), 2), (ladder(4, 6), 3), (chain(5, 6), 4), (random_net(7, 4, 7), 3)]
        for net, k in nets:
            for seed in range(3):
                for thing in mutations(random_cover(seed, net, k, needless=seed)):
                    expected = plain_cover_holds(net, k, thing)
                    self.assertIs(cover_holds(net, k, thing), expected, (net, k, thing))
                    right, wrong = right + expected, wrong + (not expected)
        self.assertGreater(right, 30)
        self.assertGreater(wrong, 2000)

    def test_all_tables_in_a_small_net(self):
        net = (2, ((8, 0, 1), (6, 0, 2), (9, 2, 3)), (4, 3))
        choices = [[None] + [(gate, cut) for size in (0, 1, 2, 3) for cut in itertools.combinations(range(5), size)]
                   for gate in gates_of(net)]
        found = 0
        for tables in itertools.product(*choices):
            thing = tuple(table for table in tables if table is not None)
            for k in (2, 3):
                expected = plain_cover_holds(net, k, thing)
                self.assertIs(cover_holds(net, k, thing), expected)
                found += expected
        self.assertGreater(found, 20)

    def test_nothing_is_changed(self):
        self.assertEqual(changed_things(lambda thing: cover_holds(NET, 2, thing), junk()), [])
        lists = [[list(table) for table in COVER], ([3, (0, 1)],) + COVER[1:], ((3, [0, 1]),) + COVER[1:]]
        self.assertEqual(changed_things(lambda thing: cover_holds(NET, 2, thing), lists), [])

    def test_the_same_asked_again(self):
        asked = [(COVER, True), ((), False), (COVER[1:], False), ([COVER], False), (COVER, True), (None, False)]
        for thing, told in asked + asked[::-1]:
            self.assertIs(cover_holds(NET, 2, thing), told)


class Walks(unittest.TestCase):
    def test_leaned(self):
        self.assertEqual(leaned(NET, COVER), COVER)
        spare = ((3, (0, 1)), (4, (1, 2)), (5, (3, 4)), (6, (0, 1, 2)), (7, (0, 1, 2)))
        self.assertEqual(leaned(NET, spare), spare[3:])
        spare = ((3, (0, 1)), (4, (1, 2)), (5, (3, 4)), (6, (0, 1, 2)), (7, (2, 3)))
        self.assertEqual(leaned(NET, spare), (spare[0], spare[3], spare[4]))
        inputs = (3, NET[1], (0, 2))
        self.assertEqual(leaned(inputs, COVER), ())
        self.assertEqual(leaned(inputs, ()), ())

    def test_depth_by(self):
        self.assertEqual(depth_by(NET, COVER), 3)
        self.assertEqual(depth_by(NET, ((6, (0, 1, 2)), (7, (0, 1, 2)))), 1)
        self.assertEqual(depth_by(NET, ((3, (0, 1)), (6, (0, 1, 2)), (7, (2, 3)))), 2)
        self.assertEqual(depth_by((3, NET[1], (0, 2)), COVER), 0)
        self.assertEqual(depth_by((3, NET[1], (0, 2)), ()), 0)
        self.assertEqual(depth_by((3, NET[1], (3, 0)), COVER), 1)
        self.assertEqual(depth_by((3, NET[1], (0, 3, 5, 3)), COVER), 2)
        # A wire that a cut has needlessly counts too.
        self.assertEqual(depth_by((3, NET[1], (7,)), ((3, (0, 1)), (4, (1, 2)), (5, (3, 4)), (7, (0, 1, 2, 5)))), 3)

    def test_depth_of_chains(self):
        for count in (1, 7, 16):
            net = doubled_chain(1, count)
            self.assertEqual(depth_by(net, tuple((gate, (gate - 1,)) for gate in gates_of(net))), count)
            self.assertEqual(depth_by(net, tuple((gate, (0,)) for gate in gates_of(net))), 1)

    def test_doubled(self):
        self.assertEqual(doubled(NET, COVER), ())
        self.assertEqual(doubled(NET, ((6, (0, 1, 2)), (7, (0, 1, 2)))), (3,))
        self.assertEqual(doubled(NET, ((3, (0, 1)), (6, (0, 1, 2)), (7, (2, 3)))), (3,))
        cover = ((3, (0, 1)), (4, (1, 2)), (5, (0, 1, 2)), (6, (0, 1, 2)), (7, (2, 3)))
        self.assertEqual(doubled(NET, cover), (3, 4, 5))
        self.assertEqual(doubled((3, NET[1], (0,)), ()), ())
        net = doubled_chain(1, 5)
        self.assertEqual(doubled(net, tuple((gate, (0,)) for gate in gates_of(net))), (1, 2, 3, 4))

    def test_against_plain_walks(self):
        found = [0, 0, 0]
        for net, k, cover in many_covers():
            lean, depth, twice = leaned(net, cover), depth_by(net, cover), doubled(net, cover)
            self.assertTrue(is_plain(lean) and is_plain(twice) and is_number(depth))
            self.assertEqual(lean, plain_leaned(net, cover))
            self.assertEqual(depth, plain_depth(net, cover))
            self.assertEqual(twice, plain_doubled(net, cover))
            self.assertIs(cover_holds(net, k, lean), True)
            self.assertEqual(leaned(net, lean), lean)
            self.assertEqual(depth_by(net, lean), depth)
            found = [found[0] + (lean != cover), max(found[1], depth), found[2] + (twice != ())]
        self.assertGreater(found[0], 50)
        self.assertGreater(found[1], 6)
        self.assertGreater(found[2], 50)

    def test_covers_by_each_cut(self):
        net = ladder(4, 6)
        for gate in gates_of(net):
            for cut in cuts_of(net, gate, 4):
                cover = tuple(
                    (other, cut if other == gate else cuts_of(net, other, 2)[-1]) for other in gates_of(net)
                )
                self.assertIs(cover_holds(net, 4, cover), True)
                self.assertEqual(depth_by(net, cover), plain_depth(net, cover))
                self.assertEqual(doubled(net, cover), plain_doubled(net, cover))
                self.assertEqual(leaned(net, cover), plain_leaned(net, cover))

    def test_the_same_asked_again(self):
        asked = list(itertools.islice(many_covers(), 0, 200, 9))
        first = [(leaned(net, cover), depth_by(net, cover), doubled(net, cover)) for net, k, cover in asked]
        again = [(leaned(net, cover), depth_by(net, cover), doubled(net, cover)) for net, k, cover in asked[::-1]]
        self.assertEqual(first, again[::-1])


if __name__ == "__main__":
    unittest.main()
