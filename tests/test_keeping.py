"""Keepers [25], and what [2] and [3] say of them."""

import itertools
import random
import unittest

from helper import (
    chain, changed_things, crossed, doubled_chain, drawn_change, gates_of, is_plain, junk, ladder, nested,
    plain_changed, plain_choices, plain_cuts, plain_depths, random_net, tree, woven_net,
)
from tablecover.cuts import cuts_of
from tablecover.depths import depths
from tablecover.errors import CoverError, NoChange
from tablecover.keeping import Keeper
from tablecover.plain import plain_cover
from tablecover.ways import cone

# Wires 0, 1, 2; the gate 3 takes 0 and 1, the gate 4 takes 3 and 2, the gate 5 takes 4 and 3.
NET = (3, ((8, 0, 1), (6, 3, 2), (9, 4, 3)), (5,))


def state_of(keeper):
    """All that a keeper tells."""
    net = keeper.net()
    return (net, tuple(keeper.cuts(gate) for gate in gates_of(net)), keeper.depths(), keeper.cover())


def made_at_once(net, k):
    """What a keeper of the net must tell."""
    return (net, tuple(cuts_of(net, gate, k) for gate in gates_of(net)), depths(net, k), plain_cover(net, k))


def plain_state(net, k):
    """The same by trials of all sets of wires."""
    told = plain_depths(net, k)
    choices = {gate: plain_choices(net, gate, k, told)[-1][0] for gate in gates_of(net)}
    tables, waiting = {}, list(net[2])
    while waiting:
        wire = waiting.pop()
        if wire in choices and wire not in tables:
            tables[wire] = choices[wire]
            waiting += choices[wire]
    cuts = tuple(plain_cuts(net, gate, k) for gate in gates_of(net))
    return (net, cuts, told, tuple(sorted(tables.items())))


def other_gates(ahead, behind, cuts):
    """The gates whose cuts, told by a function, are others behind than ahead."""
    old, new = set(gates_of(ahead)), gates_of(behind)
    return tuple(gate for gate in new if gate not in old or cuts(ahead, gate) != cuts(behind, gate))


def above(net, gate):
    """The gate and the gates above it."""
    return {wire for wire in gates_of(net) if gate in cone(net, wire)}


def way_back(net, change):
    """The changes that take the change back, one behind another."""
    word = change[0]
    if word == "less":
        return [("more", *net[1][-1])]
    if word == "more":
        return [("less",)]
    if word == "outs":
        return [("outs", net[2])]
    gate = net[1][change[1] - net[0]]
    return [("kind", change[1], gate[0])] if word == "kind" else [("lead", change[1], change[2], gate[1 + change[2]])]


class Kept(unittest.TestCase):
    def judge(self, keeper, k, change):
        """Do the change, right or wrong; all is as if made at once."""
        net = keeper.net()
        ahead = state_of(keeper)
        behind = plain_changed(net, change)
        if behind is None:
            with self.assertRaises(NoChange) as held:
                keeper.do(change)
            self.assertIs(type(held.exception), NoChange)
            self.assertEqual(state_of(keeper), ahead)
            return None
        told = keeper.do(change)
        self.assertTrue(is_plain(told))
        self.assertEqual(told, other_gates(net, behind, lambda net, gate: cuts_of(net, gate, k)), (net, change))
        self.assertEqual(state_of(keeper), made_at_once(behind, k))
        self.assertTrue(is_plain(state_of(keeper)))
        if change[0] in ("kind", "outs", "less"):
            self.assertEqual(told, ())
        if change[0] == "more":
            self.assertEqual(told, (net[0] + len(net[1]),))
        if change[0] == "lead":
            self.assertLessEqual(set(told), above(behind, change[1]))
        return told

    def test_at_first(self):
        for k in (2, 3, 4):
            for net in (NET, tree(8), chain(8, 12), ladder(2, 12), doubled_chain(1, 12), crossed(12), (1, (), (0,))):
                self.assertEqual(state_of(Keeper(net, k)), made_at_once(net, k))

    def test_ordinary_ones(self):
        keeper = Keeper(NET, 3)
        self.assertEqual(keeper.net(), NET)
        self.assertEqual(keeper.cuts(5), ((0, 1, 2), (0, 1, 4), (2, 3), (3, 4)))
        self.assertEqual(keeper.depths(), (0, 0, 0, 1, 1, 1))
        self.assertEqual(keeper.cover(), ((5, (0, 1, 2)),))
        self.assertEqual(keeper.do(("lead", 5, 1, 2)), (5,))
        self.assertEqual(keeper.cuts(5), ((0, 1, 2), (2, 3), (2, 4)))
        self.assertEqual(keeper.do(("kind", 5, 0)), ())
        self.assertEqual(keeper.do(("outs", (4, 5, 0))), ())
        self.assertEqual(keeper.cover(), ((4, (0, 1, 2)), (5, (0, 1, 2))))
        self.assertEqual(keeper.do(("lead", 3, 0, 1)), (3, 4, 5))
        self.assertEqual(keeper.cuts(3), ((1,),))
        self.assertEqual(keeper.do(("more", 8, 5, 0)), (6,))
        self.assertEqual(keeper.do(("less",)), ())
        self.assertEqual(keeper.net(), (3, ((8, 1, 1), (6, 3, 2), (0, 4, 2)), (4, 5, 0)))

    def test_a_lead_that_leaves_cuts(self):
        # To the wire that it had.
        keeper = Keeper((3, ((8, 0, 1), (6, 3, 2)), (4,)), 2)
        self.assertEqual(keeper.do(("lead", 3, 0, 0)), ())
        # The gate 6 has no cut of at most two wires that goes below 5, so it stays where 4 is changed.
        keeper = Keeper((4, ((8, 0, 1), (6, 4, 2), (6, 5, 3)), (6,)), 2)
        self.assertEqual(keeper.do(("lead", 4, 1, 2)), (4, 5))
        self.assertEqual(keeper.cuts(6), ((3, 5),))
        # The gate 3 takes 2 and 0, and then 2 and 1: of its two cuts one stays.
        keeper = Keeper((2, ((8, 0, 1), (6, 2, 0)), (3,)), 2)
        self.assertEqual(keeper.cuts(3), ((0, 1), (0, 2)))
        self.assertEqual(keeper.do(("lead", 3, 1, 1)), (3,))
        self.assertEqual(keeper.cuts(3), ((0, 1), (1, 2)))

    def test_a_gate_above_whose_cuts_are_others(self):
        net = chain(8, 8)
        for k in (2, 3, 4):
            for gate, side, wire in itertools.product(gates_of(net), (0, 1), range(16)):
                keeper = Keeper(net, k)
                self.judge(keeper, k, ("lead", gate, side, wire))

    def test_many_changes(self):
        chance = random.Random(25)
        seen = {}
        for k, most in ((2, 16), (3, 16), (4, 12)):
            for seed in range(14):
                net = random_net(seed, 1 + seed % 8, seed % (most + 1))
                keeper = Keeper(net, k)
                for turn in range(40):
                    change = drawn_change(chance, keeper.net())
                    if change[0] != "more" or len(keeper.net()[1]) < most or k < 4:
                        told = self.judge(keeper, k, change)
                        case = (change[0], told if told is None else bool(told))
                        seen[case] = seen.get(case, 0) + 1
        # Each word done and refused; leads with and without other cuts.
        self.assertEqual(len(seen), 11)
        self.assertGreater(min(seen.values()), 10)

    def test_against_a_plain_trial(self):
        chance = random.Random(26)
        for k in (2, 3, 4):
            for seed in range(6):
                keeper = Keeper(woven_net(seed, 2 + seed % 4, 4), k)
                for turn in range(25):
                    net = keeper.net()
                    change = drawn_change(chance, net)
                    behind = plain_changed(net, change)
                    if behind is not None and len(behind[1]) <= 7:
                        told = keeper.do(change)
                        self.assertEqual(told, other_gates(net, behind, lambda net, gate: plain_cuts(net, gate, k)))
                        self.assertEqual(state_of(keeper), plain_state(behind, k))

    def test_a_change_and_its_way_back(self):
        chance = random.Random(27)
        for k in (2, 3, 4):
            for seed in range(10):
                net = random_net(seed, 1 + seed % 8, 1 + seed % 11)
                keeper = Keeper(net, k)
                for turn in range(15):
                    change = drawn_change(chance, net)
                    if plain_changed(net, change) is not None:
                        ahead = state_of(keeper)
                        there = keeper.do(change)
                        back = [keeper.do(step) for step in way_back(net, change)]
                        self.assertEqual(state_of(keeper), ahead)
                        if change[0] == "lead":
                            self.assertEqual(back, [there])

    def test_from_no_gate_to_sixteen_and_back(self):
        for k in (2, 3):
            keeper = Keeper((2, (), (0,)), k)
            for count in range(16):
                self.assertEqual(self.judge(keeper, k, ("more", 6, count, count + 1)), (2 + count,))
            self.assertIsNone(self.judge(keeper, k, ("more", 6, 0, 1)))
            self.judge(keeper, k, ("outs", (17,)))
            self.assertIsNone(self.judge(keeper, k, ("less",)))
            self.judge(keeper, k, ("outs", (1,)))
            for count in range(16):
                self.assertEqual(self.judge(keeper, k, ("less",)), ())
            self.assertIsNone(self.judge(keeper, k, ("less",)))
            self.assertEqual(keeper.net(), (2, (), (1,)))

    def test_what_is_refused_changes_nothing(self):
        for net in (NET, (1, (), (0,)), chain(8, 16)):
            keeper = Keeper(net, 3)
            ahead = state_of(keeper)
            things = junk() + [("kind", 2, 8), ("lead", 3, 0, 3), ("lead", 3, 2, 0), ("more", 16, 0, 0), ("outs", ()),
                               ("outs", (99,)), ["less"], ("less", 0), nested(lambda thing: ("outs", thing), 30)]
            for thing in things:
                with self.assertRaises(NoChange) as held:
                    keeper.do(thing)
                self.assertIsInstance(held.exception, CoverError)
                self.assertEqual(state_of(keeper), ahead)
            self.assertEqual(changed_things(keeper.do, things), [])

    def test_two_keepers_side_by_side(self):
        chance = random.Random(28)
        keepers = [(Keeper(NET, 2), 2), (Keeper(NET, 3), 3), (Keeper(tree(4), 3), 3), (Keeper(NET, 2), 2)]
        for turn in range(60):
            keeper, k = chance.choice(keepers)
            others = [(other, state_of(other)) for other, own in keepers if other is not keeper]
            self.judge(keeper, k, drawn_change(chance, keeper.net()))
            for other, state in others:
                self.assertEqual(state_of(other), state)

    def test_the_same_asked_again(self):
        keeper = Keeper(crossed(12), 3)
        first = state_of(keeper)
        self.assertEqual(state_of(keeper), first)
        with self.assertRaises(NoChange):
            keeper.do(("less",))
        self.assertEqual(state_of(keeper), first)
        self.assertEqual(state_of(Keeper(crossed(12), 3)), first)

    def test_somewhat_beyond_the_bounds(self):
        for k in (1, 5):
            keeper = Keeper(tree(8), k)
            keeper.do(("lead", 14, 0, 3))
            self.assertEqual(keeper.cover(), plain_cover(keeper.net(), k))

    def test_the_methods_stand_in_the_class(self):
        for name in ("net", "cuts", "depths", "cover", "do"):
            self.assertIn(name, vars(Keeper))


if __name__ == "__main__":
    unittest.main()
