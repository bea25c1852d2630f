"""Desks [26], and what [2] says of them."""

import random
import unittest

from helper import (
    FORTY, all_ways, changed_things, cuts_with_more, drawn_change, gates_of, junk, nested, plain_changed, plain_content,
    plain_cuts, plain_depths, plain_fewest, plain_outs_at, tells_by_ways,
)
from tablecover.cuts import cuts_of
from tablecover.desk import Desk
from tablecover.errors import CoverError, NoRow
from tablecover.keeping import Keeper
from tablecover.nets import is_net
from tablecover.plain import plain_cover
from tablecover.texts import read_net, show_net

# Wires 0, 1, 2; the gate 3 is 0 and 1, the gate 4 is 3 unlike 2, the gate 5 is not both 4 and 3.
NET = (3, ((8, 0, 1), (6, 3, 2), (7, 4, 3)), (4, 5))
ROWS = ["gate 8 0 1", "gate 6 3 2", "gate 7 4 3", "outs 4 5"]

# What is refused by a desk of NET for 3.
NO_ROWS = [
    "", " ", "  ", "\n", "~", "word", "0", "ok", "none", "more 8 0 1", "inputs 3", "net", "help", "GATE 8 0 1", "Show",
    # Blanks twice, ahead or behind, and line ends.
    "gate  8 0 1", "gate 8  0 1", "gate 8 0  1", " gate 8 0 1", "gate 8 0 1 ", "kind  3 8", "kind 3 8 ", " kind 3 8",
    "lead 4 0 1 ", " lead 4 0 1", "lead 4  0 1", " less", "less ", "less  ", "outs ", "outs  4", "outs 4 ", " outs 4",
    "outs 4  5", " show", "show ", "show  ", "cuts  3", "cuts 3 ", " cuts 3", "depth  3", "depth 3 ", " depth 3",
    " cover", "cover ", "fewest  1", "fewest 1 ", " fewest 1", "content  3 0+1", "content 3  0+1", "content 3 0+1 ",
    " content 3 0+1", "row  110", "row 110 ", " row 110", "way  3 0", "way 3  0", "way 3 0 ", " way 3 0",
    "gate 8 0 1\n", "\ngate 8 0 1", "gate 8 0 1\ngate 8 0 1", "kind 3 8\n", "lead 4 0 1\n", "less\n", "\nless",
    "outs 4\n",
    "outs\n4", "show\n", "\nshow", "show\nshow", "cuts 3\n", "cuts\n3", "depth 3\n", "cover\n", "fewest 1\n",
    "content 3 0+1\n", "content 3\n0+1", "row 110\n", "row\n110", "way 3 0\n", "way 3 0+\n1", "show\r", "row 110\t",
    "show\t", "cuts\t3", "gate 8 0\t1",
    # Noughts or signs ahead of a number, and what is no number.
    "gate 08 0 1", "gate 8 00 1", "gate 8 0 01", "gate +8 0 1", "gate 8 -0 1", "gate 8 0 +1", "gate 8 0 -1",
    "gate 8. 0 1", "gate 8 0 1.0", "gate eight 0 1", "gate 8 0 1_0", "gate 8,0,1", "kind 03 8", "kind 3 08",
    "kind +3 8",
    "kind 3 +8", "kind 3 -8", "kind -1 8", "lead 04 0 1", "lead 4 00 1", "lead 4 0 01", "lead +4 0 1", "lead 4 -0 1",
    "lead 4 0 -1", "outs 04", "outs 4 05", "outs +4", "outs -1", "outs 4,5", "outs 4+5", "cuts 03", "cuts +3",
    "cuts -3",
    "cuts three", "depth 03", "depth 00", "depth +0", "depth -0", "depth x", "fewest 01", "fewest 00", "fewest +1",
    "fewest -1", "fewest 1.", "fewest x", "fewest 1_0", "content 03 0+1", "content +3 0+1", "content 3 00+1",
    "content 3 0+01", "content 3 +0+1", "content 3 0+1+", "content 3 0++1", "content 3 -0+1", "content 3 0,1",
    "content 3 x", "way 03 0", "way +3 0", "way 3 00", "way 3 01", "way 3 +0", "way 3 0+", "way 3 0++1", "way 3 -1",
    "way 3 0,1", "way 3 x", "way 3 +", "content 3 +",
    # Too few or too many words.
    "gate", "gate 8", "gate 8 0", "gate 8 0 1 1", "kind", "kind 3", "kind 3 8 8", "lead", "lead 4", "lead 4 0",
    "lead 4 0 1 1", "less 5", "less 1", "less less", "outs", "outs 0 0 0 0 0 0 0 0 0", "show 1", "show show", "cuts",
    "cuts 3 4", "depth", "depth 3 4", "cover 3", "cover 1 2", "fewest", "fewest 1 2", "content", "content 3",
    "content 0+1",
    "content 3 0+1 2", "content 3 0 1", "row", "row 1 1 0", "row 110 110", "way", "way 3", "way 3 0 1", "way 3 0 0",
    # Wires and gates that aren't there, kinds and sides that are none.
    "gate 16 0 1", "gate 8 6 0", "gate 8 0 6", "gate 8 99 0", "gate " + "9" * 40 + " 0 1", "kind 2 8", "kind 0 8",
    "kind 6 8", "kind 3 16", "kind " + "9" * 40 + " 8", "lead 2 0 0", "lead 6 0 0", "lead 4 2 0", "lead 4 0 4",
    "lead 4 1 5", "lead 3 0 3", "outs 6", "outs 4 6", "outs 0 1 2 99", "cuts 0", "cuts 2", "cuts 6", "cuts 99",
    "depth 6",
    "depth 99", "depth " + "9" * 40, "content 2 0+1", "content 0 0", "content 6 0+1", "way 2 0", "way 0 0", "way 6 0",
    "way 99 0",
    # What would make no net.
    "less",
    # Cuts that are none, or don't rise.
    "content 3 0", "content 3 1", "content 3 2", "content 3 0+2", "content 4 3", "content 4 0+2", "content 5 4",
    "content 3 1+0", "content 3 0+0+1", "content 3 0+1+1", "content 3 3", "content 3 0+1+3", "content 4 2+3+4",
    "content 3 0+1+4", "content 5 4+3", "content 3 0+1+9", "way 3 1+0", "way 3 0+0", "way 3 3", "way 3 0+3", "way 3 4",
    "way 5 4+3", "way 4 0+2+2", "way 4 4", "way 5 6", "way 5 " + "9" * 40, "content 5 3+4+" + "9" * 40,
    # Rows of the wrong length, or of other signs.
    "row 0", "row 01", "row 0000", "row 00000000", "row 11x", "row 112", "row -11", "row 1 0", "row 1.0", "row 1+0",
    "row (1,1,0)", "row two",
    "x" * 600, "gate 8 0 " + "1" * 590, "outs" + " 0" * 298, "content 3 " + "+".join("0" * 295), "less" + " " * 590,
]


def desk_of(net, k):
    """A desk whose net this is, by rows alone."""
    desk = Desk(net[0], k)
    for kind, one, other in net[1]:
        desk.say(f"gate {kind} {one} {other}")
    desk.say("outs " + " ".join(map(str, net[2])))
    return desk


def row_for(change):
    """The row that asks for the change."""
    word, *parts = change
    if word == "outs":
        parts = parts[0]
    return " ".join([{"more": "gate"}.get(word, word)] + [str(part) for part in parts])


def as_cut(wires):
    return "+".join(map(str, wires))


class Answers(unittest.TestCase):
    def say(self, desk, text, told):
        answer = desk.say(text)
        self.assertIs(type(answer), str)
        self.assertEqual(answer, told, text)

    def test_at_first(self):
        for many in range(1, 9):
            for k in (2, 3, 4):
                desk = Desk(many, k)
                self.assertEqual(desk.net(), (many, (), (0,)))
                self.say(desk, "show", f"inputs {many}\nouts 0")
                self.say(desk, "cover", "none")
                self.say(desk, "fewest 0", "0")
                self.say(desk, f"depth {many - 1}", "0")
                self.say(desk, "row " + "1" + "0" * (many - 1), "1")
                self.say(desk, "row " + "0" + "1" * (many - 1), "0")

    def test_changes(self):
        desk = Desk(3, 3)
        self.say(desk, "gate 8 0 1", "ok 3")
        self.say(desk, "gate 6 3 2", "ok 4")
        self.say(desk, "gate 7 4 3", "ok 5")
        self.say(desk, "outs 4 5", "ok")
        self.assertEqual(desk.net(), NET)
        self.say(desk, "kind 3 14", "ok")
        self.say(desk, "kind 3 0", "ok")
        self.say(desk, "kind 3 15", "ok")
        self.say(desk, "kind 3 8", "ok")
        self.assertEqual(desk.net(), NET)
        self.say(desk, "lead 3 1 2", "ok 3 4 5")
        self.assertEqual(desk.net(), (3, ((8, 0, 2), (6, 3, 2), (7, 4, 3)), (4, 5)))
        self.say(desk, "lead 3 1 2", "ok")
        self.say(desk, "lead 5 0 0", "ok 5")
        self.say(desk, "lead 4 1 3", "ok 4")
        self.say(desk, "outs 0", "ok")
        self.say(desk, "outs 0 1 2 3 4 5 0 1", "ok")
        self.say(desk, "outs 4", "ok")
        self.say(desk, "less", "ok")
        self.assertEqual(desk.net(), (3, ((8, 0, 2), (6, 3, 3)), (4,)))

    def test_show(self):
        desk = desk_of(NET, 3)
        self.say(desk, "show", "inputs 3\ngate 8 0 1\ngate 6 3 2\ngate 7 4 3\nouts 4 5")
        self.assertEqual(read_net(desk.say("show")), NET)

    def test_cuts(self):
        desk = desk_of(NET, 3)
        self.say(desk, "cuts 3", "0+1")
        self.say(desk, "cuts 4", "0+1+2 2+3")
        self.say(desk, "cuts 5", "0+1+2 0+1+4 2+3 3+4")
        self.say(desk_of(NET, 2), "cuts 5", "2+3 3+4")
        self.say(desk_of((1, ((9, 0, 0),), (1,)), 2), "cuts 1", "0")

    def test_numbers_of_two_figures(self):
        desk = Desk(8, 2)
        for wire in range(8, 14):
            desk.say(f"gate 6 {wire - 1} {wire - 8}")
        self.say(desk, "outs 13 10", "ok")
        self.say(desk, "cuts 13", "5+12")
        self.say(desk, "gate 6 11 12", "ok 14")
        self.say(desk, "cuts 14", "4+11 11+12")
        self.say(desk, "cover", "8:0+7 9:1+8 10:2+9 11:3+10 12:4+11 13:5+12")
        self.say(desk, "depth 13", "6")
        self.say(desk, "way 13 12", "5 13")
        self.say(desk, "way 13 0+1+2+3+4+5+6", "7 8 9 10 11 12 13")
        self.say(desk, "way 13 5+12", "none")

    def test_depth(self):
        desk = desk_of(NET, 2)
        for wire, depth in enumerate((0, 0, 0, 1, 2, 2)):
            self.say(desk, f"depth {wire}", str(depth))
        desk = desk_of(NET, 3)
        for wire, depth in enumerate((0, 0, 0, 1, 1, 1)):
            self.say(desk, f"depth {wire}", str(depth))

    def test_cover(self):
        self.say(desk_of(NET, 3), "cover", "4:0+1+2 5:0+1+2")
        self.say(desk_of(NET, 2), "cover", "3:0+1 4:2+3 5:2+3")
        self.say(desk_of((3, NET[1], (0, 2)), 2), "cover", "none")
        self.say(desk_of((3, NET[1], (3, 2)), 2), "cover", "3:0+1")

    def test_fewest(self):
        desk = desk_of(NET, 2)
        self.say(desk, "fewest 0", "no depth")
        self.say(desk, "fewest 1", "no depth")
        self.say(desk, "fewest 2", "3")
        self.say(desk, "fewest 3", "3")
        self.say(desk, f"fewest {FORTY}", "3")
        self.say(desk, "fewest " + "9" * 593, "3")
        desk = desk_of(NET, 3)
        self.say(desk, "fewest 0", "no depth")
        self.say(desk, "fewest 1", "2")
        self.say(desk, "outs 1", "ok")
        self.say(desk, "fewest 0", "0")

    def test_fewest_of_more_than_six_gates(self):
        desk = Desk(8, 2)
        for wire in range(8, 14):
            desk.say(f"gate 6 {wire - 1} {wire - 8}")
        desk.say("outs 13")
        self.say(desk, "fewest 6", "6")
        self.say(desk, "fewest 5", "no depth")
        desk.say("gate 0 0 0")
        # Too many goes ahead of no depth.
        for depth in (0, 5, 6, 7, FORTY):
            self.say(desk, f"fewest {depth}", "too many")
        desk.say("less")
        self.say(desk, "fewest 6", "6")

    def test_content(self):
        desk = desk_of(NET, 3)
        self.say(desk, "content 3 0+1", "0001")
        self.say(desk, "content 4 2+3", "0110")
        self.say(desk, "content 4 0+1+2", "00011110")
        self.say(desk, "content 5 3+4", "1110")
        # By cuts that are no least ones, up to all lesser wires.
        self.say(desk, "content 3 0+1+2", "00010001")
        self.say(desk, "content 5 0+3+4", "11111100")
        self.say(desk, "content 5 0+1+2+3+4", "1" * 24 + "0" * 8)
        self.say(desk_of((1, ((9, 0, 0), (1, 0, 0)), (1,)), 2), "content 2 0", "10")
        self.say(desk_of((1, ((9, 0, 0), (1, 0, 0)), (1,)), 2), "content 2 0+1", "1010")

    def test_content_by_eight_wires_and_nine(self):
        desk = Desk(8, 2)
        for row in ("gate 8 0 1", "gate 14 8 2", "gate 6 8 9"):
            desk.say(row)
        self.say(desk, "content 9 0+1+2", "00011111")
        self.say(desk, "content 9 0+1+2+3+4+5+6+7", "00011111" * 32)
        self.say(desk, "content 10 1+2+3+4+5+6+8+9", "0" * 64 + "1" * 128 + "0" * 64)
        for cut in ("0+1+2+3+4+5+6+7+8", "0+1+2+3+4+5+6+7+8+9", "0+1+2+3+4+5+6+8+9"):
            with self.assertRaises(NoRow):
                desk.say(f"content 10 {cut}")

    def test_row(self):
        desk = desk_of(NET, 3)
        # The outs are 4 and 5.
        for row, told in (("000", "01"), ("110", "10"), ("111", "01"), ("001", "11"), ("100", "01"), ("011", "11")):
            self.say(desk, f"row {row}", told)
        self.say(desk, "outs 0 1 2 3 0 0 0 0", "ok")
        self.say(desk, "row 011", "01100000")
        desk = Desk(8, 2)
        desk.say("outs 7 6 5 4 3 2 1 0")
        self.say(desk, "row 11010000", "00001011")

    def test_way(self):
        desk = desk_of(NET, 2)
        self.say(desk, "way 3 0", "1 3")
        self.say(desk, "way 3 1", "0 3")
        self.say(desk, "way 3 0+1", "none")
        self.say(desk, "way 3 0+1+2", "none")
        self.say(desk, "way 4 3", "2 4")
        self.say(desk, "way 4 2+3", "none")
        self.say(desk, "way 5 0+2+4", "1 3 5")
        self.say(desk, "way 5 0+1+2+3+4", "none")

    def test_long_rows(self):
        self.say(desk_of(NET, 2), "fewest 1" + "0" * 700, "3")


class Drawn(unittest.TestCase):
    def test_against_the_words(self):
        """Changes at will, and behind each all questions."""
        for k in (2, 3, 4):
            for seed in range(8):
                chance = random.Random(100 * k + seed)
                desk = Desk(1 + seed, k)
                for turn in range(30):
                    net = desk.net()
                    change = drawn_change(chance, net)
                    behind = plain_changed(net, change)
                    if behind is not None and len(behind[1]) > 8:
                        continue
                    self.assertEqual(self.done(desk, row_for(change)), self.expected(net, behind, k))
                    self.assertEqual(desk.net(), net if behind is None else behind)
                    if turn % 3 == 0:
                        self.ask(chance, desk, k)

    def done(self, desk, text):
        try:
            return desk.say(text)
        except NoRow:
            return None

    def expected(self, net, behind, k):
        if behind is None:
            return None
        keeper = Keeper(net, k)
        gates = [gate for gate in gates_of(behind)
                 if gate not in gates_of(net) or keeper.cuts(gate) != cuts_of(behind, gate, k)]
        return "ok" + "".join(f" {gate}" for gate in gates)

    def ask(self, chance, desk, k):
        net = desk.net()
        self.assertTrue(is_net(net))
        self.assertEqual(desk.say("show"), show_net(net))
        depths = plain_depths(net, k)
        for wire, depth in enumerate(depths):
            self.assertEqual(desk.say(f"depth {wire}"), str(depth))
        tables = [f"{gate}:{as_cut(cut)}" for gate, cut in plain_cover(net, k)]
        self.assertEqual(desk.say("cover"), " ".join(tables) or "none")
        row = tuple(chance.randrange(2) for at in range(net[0]))
        told = "".join(map(str, plain_outs_at(net, row)))
        self.assertEqual(desk.say("row " + "".join(map(str, row))), told)
        for depth in range(4):
            self.assertEqual(desk.say(f"fewest {depth}"), self.fewest(net, k, depth))
        for gate in gates_of(net):
            self.ask_gate(chance, desk, k, gate)

    def fewest(self, net, k, depth):
        if len(net[1]) > 6:
            return "too many"
        told = plain_fewest(net, k, depth)
        return "no depth" if told is None else str(told)

    def ask_gate(self, chance, desk, k, gate):
        net = desk.net()
        self.assertEqual(desk.say(f"cuts {gate}"), " ".join(as_cut(cut) for cut in plain_cuts(net, gate, k)))
        for cut in cuts_with_more(chance, net, gate, 8 if net[0] < 5 else 4)[:4]:
            if len(cut) <= 8:
                told = plain_content(net, gate, cut, [(0,) * net[0]])
                self.assertEqual(desk.say(f"content {gate} {as_cut(cut)}"), "".join(map(str, told)))
        wires = tuple(sorted(chance.sample(range(gate), chance.randrange(1, gate + 1))))
        ways = all_ways(net, gate)
        told = desk.say(f"way {gate} {as_cut(wires)}")
        if tells_by_ways(ways, wires):
            self.assertEqual(told, "none")
        else:
            way = tuple(map(int, told.split(" ")))
            self.assertIn(way, ways)
            self.assertFalse(set(way) & set(wires))
            self.assertEqual(told, " ".join(map(str, way)))


class Refused(unittest.TestCase):
    def refused(self, desk, thing):
        ahead = (desk.net(), desk.say("show"), desk.say("cover"))
        with self.subTest(thing=repr(thing)[:80]):
            with self.assertRaises(NoRow) as held:
                desk.say(thing)
            self.assertIs(type(held.exception), NoRow)
            self.assertIsInstance(held.exception, CoverError)
            self.assertEqual((desk.net(), desk.say("show"), desk.say("cover")), ahead)

    def test_no_rows(self):
        desk = desk_of(NET, 3)
        for text in NO_ROWS:
            self.refused(desk, text)
        self.assertEqual(desk.net(), NET)

    def test_what_would_make_no_net(self):
        desk = Desk(2, 2)
        self.refused(desk, "less")
        self.refused(desk, "kind 2 8")
        self.refused(desk, "lead 2 0 0")
        self.refused(desk, "outs 2")
        for at in range(16):
            desk.say("gate 8 0 1")
        self.refused(desk, "gate 8 0 1")
        desk.say("outs 17")
        self.refused(desk, "less")
        desk.say("outs 0 16")
        desk.say("less")
        self.refused(desk, "less")
        self.refused(desk, "outs 17")

    def test_gates_that_are_gone(self):
        desk = desk_of((2, ((8, 0, 1), (6, 0, 2)), (2,)), 2)
        asked = ["cuts 3", "depth 3", "content 3 0+2", "way 3 0", "kind 3 8", "lead 3 0 0", "gate 8 3 0"]
        for text in asked[:4]:
            desk.say(text)
        desk.say("less")
        for text in asked:
            self.refused(desk, text)

    def test_anything(self):
        desk = desk_of(NET, 3)
        for thing in junk() + [row.encode() for row in ROWS] + [["show"], ("show",), {"show": 1}, ("less",), None]:
            self.refused(desk, thing)
        self.assertEqual(changed_things(desk.say, junk()), [])

    def test_thirty_deep(self):
        desk = desk_of(NET, 3)
        for wrap in (lambda thing: (thing,), lambda thing: [thing], lambda thing: {"show": thing},
                     lambda thing: ("outs", thing), lambda thing: ("show", thing)):
            for depth in range(31):
                self.refused(desk, nested(wrap, depth))

    def test_other_signs_that_look_like_figures(self):
        desk = desk_of(NET, 3)
        for sign in "\u00b2\u0663\uff11":
            self.refused(desk, f"cuts {sign}")
            self.refused(desk, f"depth {sign}")
            self.refused(desk, f"row 11{sign}")
            self.refused(desk, f"fewest {sign}")
            self.refused(desk, f"gate 8 0 {sign}")


class SideBySide(unittest.TestCase):
    def test_two_desks_by_turns(self):
        chance = random.Random(29)
        desks = [Desk(3, 2), Desk(3, 2), Desk(5, 3)]
        nets = [desk.net() for desk in desks]
        for turn in range(150):
            at = chance.randrange(3)
            change = drawn_change(chance, nets[at])
            behind = plain_changed(nets[at], change)
            try:
                desks[at].say(row_for(change))
                nets[at] = behind
            except NoRow:
                self.assertIsNone(behind)
            self.assertEqual([desk.net() for desk in desks], nets)

    def test_the_same_asked_again(self):
        asked = ["show", "cuts 4", "depth 5", "cover", "fewest 1", "fewest 0", "content 5 0+3+4", "row 110", "way 5 4",
                 "way 5 3+4", "less", "nothing", "cuts 9", ""]
        desk, other = desk_of(NET, 3), desk_of(NET, 3)
        first = [self.answer(desk, text) for text in asked]
        self.assertEqual([self.answer(desk, text) for text in asked[::-1]], first[::-1])
        self.assertEqual([self.answer(other, text) for text in asked], first)
        self.assertIn("no row", first)

    def answer(self, desk, text):
        try:
            return desk.say(text)
        except NoRow:
            return "no row"

    def test_a_net_that_was_told_stays(self):
        desk = desk_of(NET, 3)
        told = desk.net()
        desk.say("outs 0")
        desk.say("less")
        self.assertEqual(told, NET)

    def test_the_methods_stand_in_the_class(self):
        for name in ("say", "net"):
            self.assertIn(name, vars(Desk))


if __name__ == "__main__":
    unittest.main()
