"""Changes of nets [24], and what [2] says of them."""

import itertools
import random
import unittest

from helper import (
    FORTY, chain, changed_things, doubled_chain, drawn_change, is_plain, junk, ladder, mutations, nested,
    plain_changed, random_net, tree,
)
from tablecover.changes import changed
from tablecover.errors import CoverError, NoChange
from tablecover.nets import is_net

# Wires 0, 1, 2; the gate 3 takes 0 and 1, the gate 4 takes 3 and 2.
NET = (3, ((8, 0, 1), (6, 3, 2)), (3, 0))
BARE = (2, (), (1,))
FULL = (2, ((8, 0, 1),) * 16, (0,))

WHOLE = [
    ("kind", 3, 0), ("kind", 4, 15), ("lead", 3, 0, 2), ("lead", 4, 1, 3), ("more", 9, 4, 0), ("less",), ("outs", (4,)),
    ("outs", (0, 1, 2, 3, 4, 0, 1, 2)),
]


class Changed(unittest.TestCase):
    def told(self, net, change):
        kept = repr(net)
        told = changed(net, change)
        self.assertTrue(is_plain(told))
        self.assertIs(is_net(told), True)
        self.assertEqual(told, plain_changed(net, change), (net, change))
        self.assertEqual(repr(net), kept)
        return told

    def refused(self, net, change):
        kept = repr(net)
        with self.subTest(change=repr(change)[:80]):
            with self.assertRaises(NoChange) as held:
                changed(net, change)
            self.assertIs(type(held.exception), NoChange)
            self.assertIsInstance(held.exception, CoverError)
        self.assertIsNone(plain_changed(net, change))
        self.assertEqual(repr(net), kept)

    def test_kind(self):
        self.assertEqual(self.told(NET, ("kind", 3, 0)), (3, ((0, 0, 1), (6, 3, 2)), (3, 0)))
        self.assertEqual(self.told(NET, ("kind", 4, 15)), (3, ((8, 0, 1), (15, 3, 2)), (3, 0)))
        self.assertEqual(self.told(NET, ("kind", 4, 6)), NET)
        for kind in range(16):
            self.told(NET, ("kind", 4, kind))
        for kind in (-1, 16, 17, FORTY, -FORTY, True, False, None, "8", (8,), [8]):
            self.refused(NET, ("kind", 3, kind))
        for gate in (0, 1, 2, 5, 6, -1, -2, -5, FORTY, -FORTY, True, None, "3", (3,), [3]):
            self.refused(NET, ("kind", gate, 8))
        for gate in range(-2, 4):
            self.refused(BARE, ("kind", gate, 8))

    def test_a_truth_is_no_gate(self):
        net = (1, ((9, 0, 0), (9, 1, 0)), (2,))
        self.assertEqual(self.told(net, ("kind", 1, 3)), (1, ((3, 0, 0), (9, 1, 0)), (2,)))
        self.refused(net, ("kind", True, 3))
        self.refused(net, ("kind", 1, True))
        self.refused(net, ("lead", True, 0, 0))
        self.refused(net, ("lead", 2, True, 0))
        self.refused(net, ("lead", 2, False, 0))
        self.refused(net, ("lead", 2, 0, True))
        self.refused(net, ("lead", 2, 0, False))
        self.refused(net, ("more", True, 0, 0))
        self.refused(net, ("more", 1, False, 0))
        self.refused(net, ("more", 1, 0, True))
        self.refused(net, ("outs", (True,)))
        self.refused(net, ("outs", (0, False)))

    def test_lead(self):
        self.assertEqual(self.told(NET, ("lead", 3, 0, 2)), (3, ((8, 2, 1), (6, 3, 2)), (3, 0)))
        self.assertEqual(self.told(NET, ("lead", 3, 1, 2)), (3, ((8, 0, 2), (6, 3, 2)), (3, 0)))
        self.assertEqual(self.told(NET, ("lead", 4, 1, 3)), (3, ((8, 0, 1), (6, 3, 3)), (3, 0)))
        self.assertEqual(self.told(NET, ("lead", 4, 0, 3)), NET)
        for gate, side, wire in itertools.product((3, 4), (0, 1), range(-2, 8)):
            (self.told if 0 <= wire < gate else self.refused)(NET, ("lead", gate, side, wire))
        for side in (-1, 2, 3, FORTY, None, "0", (0,)):
            self.refused(NET, ("lead", 3, side, 0))
        for gate in (0, 1, 2, 5, 6, -1, -2, FORTY, None, "3", (3,)):
            for wire in (0, -1, -9):
                self.refused(NET, ("lead", gate, 0, wire))
        for wire in (FORTY, -FORTY, None, "0", (0,), [0]):
            self.refused(NET, ("lead", 4, 1, wire))
        self.refused(BARE, ("lead", 2, 0, 0))
        self.refused(BARE, ("lead", 1, 0, 0))

    def test_more(self):
        self.assertEqual(self.told(NET, ("more", 9, 4, 0)), (3, ((8, 0, 1), (6, 3, 2), (9, 4, 0)), (3, 0)))
        self.assertEqual(self.told(BARE, ("more", 0, 1, 1)), (2, ((0, 1, 1),), (1,)))
        self.assertEqual(self.told(BARE, ("more", 15, 0, 1)), (2, ((15, 0, 1),), (1,)))
        for one, other in itertools.product(range(-2, 8), repeat=2):
            fits = 0 <= one < 5 and 0 <= other < 5
            (self.told if fits else self.refused)(NET, ("more", 8, one, other))
        for kind in range(-3, 20):
            (self.told if 0 <= kind < 16 else self.refused)(NET, ("more", kind, 0, 1))
        self.refused(NET, ("more", FORTY, 0, 0))
        self.refused(NET, ("more", 8, FORTY, 0))
        self.refused(NET, ("more", 8, 0, -FORTY))

    def test_the_sixteenth_gate_and_the_seventeenth(self):
        net = BARE
        for count in range(1, 17):
            net = self.told(net, ("more", 6, count % 2, count))
            self.assertEqual(len(net[1]), count)
        self.refused(net, ("more", 6, 0, 0))
        self.refused(FULL, ("more", 8, 0, 1))
        self.assertEqual(len(self.told(FULL[:1] + (FULL[1][1:],) + FULL[2:], ("more", 8, 0, 1))[1]), 16)

    def test_less(self):
        self.assertEqual(self.told(NET, ("less",)), (3, ((8, 0, 1),), (3, 0)))
        # The last gate is an out now.
        self.refused((3, ((8, 0, 1),), (3, 0)), ("less",))
        self.refused((3, NET[1], (0, 4)), ("less",))
        self.refused((3, NET[1], (4,)), ("less",))
        self.assertEqual(self.told((3, ((8, 0, 1),), (0, 2)), ("less",)), (3, (), (0, 2)))
        self.refused(BARE, ("less",))
        self.refused((8, (), (7,) * 8), ("less",))
        net = FULL
        for count in range(15, -1, -1):
            net = self.told(net, ("less",))
            self.assertEqual(len(net[1]), count)
        self.refused(net, ("less",))

    def test_outs(self):
        self.assertEqual(self.told(NET, ("outs", (4,))), (3, NET[1], (4,)))
        self.assertEqual(self.told(NET, ("outs", (2, 2, 0))), (3, NET[1], (2, 2, 0)))
        self.assertEqual(self.told(NET, ("outs", NET[2])), NET)
        for count in range(12):
            (self.told if 1 <= count <= 8 else self.refused)(NET, ("outs", (1,) * count))
        for out in range(-2, 8):
            (self.told if 0 <= out < 5 else self.refused)(NET, ("outs", (0, out)))
        for outs in ([4], [0, 1], 4, None, "4", {4: 4}, ((4,),), (None,), ("4",), (FORTY,), (-FORTY,), ([0],)):
            self.refused(NET, ("outs", outs))
        self.refused(NET, ("outs", 0, 1))
        self.refused(NET, ("outs", (0,), (1,)))

    def test_too_few_or_too_many_parts(self):
        for change in WHOLE:
            self.told(NET, change)
            for count in range(len(change)):
                self.refused(NET, change[:count])
            for more in (0, (), None, change[-1]):
                self.refused(NET, change + (more,))
        self.refused(NET, ("less", ()))
        self.refused(NET, ("less", 4))
        self.refused(NET, ())

    def test_other_words(self):
        for change in WHOLE:
            for word in ("", " ", "Kind", "kind ", " lead", "LESS", "gate", "out", "show", "kinds", None, 0, True,
                         ("kind",), ["outs"], {"less": 0}, (), "kind\n"):
                self.refused(NET, (word,) + change[1:])
            self.refused(NET, change[1:])
        for word, other in itertools.permutations(("kind", "lead", "more", "less", "outs"), 2):
            for change in WHOLE:
                if change[0] == word and {word, other} != {"lead", "more"}:
                    self.refused(NET, (other,) + change[1:])

    def test_lists_and_texts(self):
        for change in WHOLE:
            self.refused(NET, list(change))
            self.refused(NET, (change,))
            self.refused(NET, " ".join(map(str, change)))
            self.refused(NET, change[0])
            self.refused(NET, {change[0]: change[1:]})
            self.refused(NET, (change[0], change[1:]) if change[0] not in ("outs", "less") else change[0])

    def test_anything(self):
        for thing in junk():
            for net in (NET, BARE, FULL):
                self.refused(net, thing)
            for change in WHOLE:
                for at in range(len(change)):
                    self.judge(NET, change[:at] + (thing,) + change[at + 1:])
                self.judge(NET, change + (thing,))

    def judge(self, net, change):
        expected = plain_changed(net, change)
        if expected is None:
            self.refused(net, change)
        else:
            self.assertEqual(self.told(net, change), expected)
        return expected is not None

    def test_thirty_deep(self):
        for wrap in (lambda thing: (thing,), lambda thing: [thing], lambda thing: {0: thing},
                     lambda thing: ("outs", thing), lambda thing: ("kind", 3, thing), lambda thing: ("less", thing)):
            for depth in range(2, 31):
                self.refused(NET, nested(wrap, depth))

    def test_changed_at_one_place(self):
        right = wrong = 0
        for net in (NET, random_net(1, 2, 7), chain(8, 16), doubled_chain(1, 4)):
            for change in WHOLE:
                for thing in mutations(change):
                    done = self.judge(net, thing)
                    right, wrong = right + done, wrong + (not done)
        self.assertGreater(right, 50)
        self.assertGreater(wrong, 500)

    def test_drawn_changes(self):
        chance = random.Random(24)
        words = {}
        for seed in range(120):
            net = random_net(seed, 1 + seed % 8, seed % 17)
            for turn in range(25):
                change = drawn_change(chance, net)
                done = self.judge(net, change)
                words[change[0], done] = words.get((change[0], done), 0) + 1
                if done:
                    net = changed(net, change)
        self.assertEqual(len(words), 10)
        self.assertGreater(min(words.values()), 10)

    def test_what_comes_of_it_can_be_handed_in_again(self):
        net = BARE
        for change in (("more", 8, 0, 1), ("more", 6, 2, 2), ("outs", (3, 2)), ("lead", 3, 1, 0), ("kind", 2, 14)):
            net = self.told(net, change)
        self.assertEqual(net, (2, ((14, 0, 1), (6, 2, 0)), (3, 2)))

    def test_somewhat_beyond_the_bounds(self):
        # What comes of a net that is none is none, either.
        with self.assertRaises(NoChange):
            changed(doubled_chain(1, 18), ("kind", 1, 3))

    def test_nothing_is_changed(self):
        things = junk() + [["kind", 3, 8], ("outs", [0, 1]), ("lead", 3, 0, [1]), ["less"]]
        self.assertEqual(changed_things(lambda thing: changed(NET, thing), things), [])

    def test_the_same_asked_again(self):
        asked = [(net, change) for net in (NET, BARE, FULL, tree(4), ladder(3, 5)) for change in WHOLE + [None, ()]]
        first = [answer(*question) for question in asked]
        again = [answer(*question) for question in asked[::-1]]
        self.assertEqual(first, again[::-1])
        self.assertIn("no change", first)


def answer(net, change):
    try:
        return changed(net, change)
    except NoChange:
        return "no change"


if __name__ == "__main__":
    unittest.main()
