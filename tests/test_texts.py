"""Texts of nets [6], and what [2] says of them."""

import unittest

from helper import chain, changed_things, doubled_chain, junk, ladder, random_net, tree
from tablecover.errors import CoverError, NoText
from tablecover.nets import is_net
from tablecover.texts import read_net, show_net

SIXTEEN = ["gate 6 0 1"] * 16

SHOWN = [
    ((1, (), (0,)), "inputs 1\nouts 0"),
    ((8, (), (7, 0, 7)), "inputs 8\nouts 7 0 7"),
    ((2, ((8, 0, 1),), (2,)), "inputs 2\ngate 8 0 1\nouts 2"),
    ((2, ((0, 1, 1), (15, 2, 0)), (3, 2, 1, 0)), "inputs 2\ngate 0 1 1\ngate 15 2 0\nouts 3 2 1 0"),
    ((2, ((6, 0, 1),) * 16, (17,)), "inputs 2\n" + "gate 6 0 1\n" * 16 + "outs 17"),
    ((8, (), (0, 1, 2, 3, 4, 5, 6, 7)), "inputs 8\nouts 0 1 2 3 4 5 6 7"),
    ((8, ((10, 7, 6), (9, 8, 8)), (9,) * 8), "inputs 8\ngate 10 7 6\ngate 9 8 8\nouts 9 9 9 9 9 9 9 9"),
]

# Each stands as the first row, instead of `inputs 2`.
NO_INPUTS = [
    "", " ", "inputs", "input 2", "Inputs 2", "outs 0", "gate 8 0 1", "2", "inputs two", "inputs 0", "inputs 9",
    "inputs 10", "inputs 02", "inputs +2", "inputs -2", "inputs 2 2", "inputs 2 ", " inputs 2", "inputs  2",
    "inputs2", "inputs 2.", "inputs 2.0", "inputs 2_", "inputs 0_2", "inputs 00", "inputs " + "1" * 500, "inputs\t2",
    "inputs 2\r", "inputs 2\t", "inputs ~",
]

# Each stands where the second gate, wire 3, or the outs would stand.
NO_GATE = [
    "", " ", "gate", "gates 8 0 1", "Gate 8 0 1", "word", "inputs 2", "8 0 1", "gate 8 0", "gate 8", "gate 8 0 1 1",
    "gate 16 0 1", "gate -1 0 1", "gate 08 0 1", "gate +8 0 1", "gate 8 00 1", "gate 8 0 01", "gate 8 0 +1",
    "gate 8 0 -1", "gate 8 -0 1", "gate 8  0 1", "gate 8 0  1", "gate  8 0 1", " gate 8 0 1", "gate 8 0 1 ",
    "gate 8 3 0", "gate 8 0 3", "gate 8 4 0", "gate 8 0 4", "gate 8 0 23", "gate x 0 1", "gate 8 x 1", "gate 8 0 x",
    "gate 8,0,1", "gate 8 0 1.", "gate 8 0 1" + "0" * 40, "gate " + "8" * 500 + " 0 1", "gate 1_0 0 1",
    "gate 8 0 1\r", "gate\t8 0 1", "gate 8 0 outs",
]

NO_OUTS = [
    "outs", "outs ", "out 2", "Outs 2", "outs 3", "outs 24", "outs -1", "outs +1", "outs 02", "outs 00", "outs 2  2",
    "outs  2", " outs 2", "outs 2 ", "outs 2 3", "outs 0 1 2 0 1 2 0 1 2", "outs x", "outs 2 x", "outs 2,1", "outs2",
    "outs " + "2" * 500, "outs 2\r", "outs 1_0",
]


class Texts(unittest.TestCase):
    def refused(self, text, row):
        with self.subTest(text=repr(text)[:80]):
            with self.assertRaises(NoText) as held:
                read_net(text)
            self.assertEqual(held.exception.row, row)
            self.assertIs(type(held.exception.row), int)
            self.assertIsInstance(held.exception, CoverError)

    def test_shown_and_read(self):
        for net, text in SHOWN:
            with self.subTest(text=text):
                self.assertEqual(show_net(net), text)
                self.assertEqual(read_net(text), net)
                self.assertTrue(is_net(read_net(text)))

    def test_there_and_back(self):
        nets = [random_net(seed, 1 + seed % 8, seed % 17) for seed in range(150)]
        for net in nets + [chain(8, 16), doubled_chain(1, 16), tree(8), ladder(2, 16)]:
            text = show_net(net)
            self.assertIs(type(text), str)
            self.assertEqual(len(text.split("\n")), len(net[1]) + 2)
            self.assertEqual(repr(read_net(text)), repr(net))
            self.assertEqual(show_net(read_net(text)), text)

    def test_no_row_of_inputs(self):
        for row in NO_INPUTS:
            self.refused(row, 0)
            self.refused(row + "\nouts 0", 0)
            self.refused(row + "\ngate 8 0 0\nouts 0", 0)

    def test_each_number_of_inputs(self):
        for many in range(12):
            if 1 <= many <= 8:
                self.assertEqual(read_net(f"inputs {many}\nouts 0"), (many, (), (0,)))
            else:
                self.refused(f"inputs {many}\nouts 0", 0)

    def test_no_row_of_a_gate(self):
        for row in NO_GATE:
            self.refused(f"inputs 2\ngate 8 0 1\n{row}\nouts 0", 2)
            self.refused(f"inputs 2\ngate 8 0 1\n{row}", 2)

    def test_no_row_of_outs(self):
        for row in NO_OUTS:
            self.refused(f"inputs 2\ngate 8 0 1\n{row}", 2)
            self.refused(f"inputs 2\n{row}".replace("outs 2", "outs 9"), 1)

    def test_a_wire_is_there_from_its_row_on(self):
        self.assertEqual(read_net("inputs 1\ngate 8 0 0\ngate 8 1 0\nouts 2")[1], ((8, 0, 0), (8, 1, 0)))
        self.refused("inputs 1\ngate 8 1 0\ngate 8 0 0\nouts 2", 1)
        self.refused("inputs 1\ngate 8 0 1\ngate 8 0 0\nouts 2", 1)
        self.refused("inputs 1\ngate 8 0 0\ngate 8 0 2\nouts 2", 2)
        self.refused("inputs 1\nouts 1", 1)
        self.refused("inputs 1\nouts 1\ngate 8 0 0", 1)

    def test_kinds(self):
        for kind in range(20):
            text = f"inputs 1\ngate {kind} 0 0\nouts 1"
            if kind < 16:
                self.assertEqual(read_net(text), (1, ((kind, 0, 0),), (1,)))
            else:
                self.refused(text, 1)

    def test_a_seventeenth_gate(self):
        rows = ["inputs 2"] + SIXTEEN
        self.assertEqual(len(read_net("\n".join(rows + ["outs 17"]))[1]), 16)
        self.refused("\n".join(rows + ["gate 6 0 1", "outs 17"]), 17)
        self.refused("\n".join(rows + ["gate 6 0 1"] * 5), 17)
        self.refused("\n".join(rows + ["outs 18"]), 17)

    def test_how_many_outs(self):
        for count in range(12):
            text = "inputs 2" + "\nouts" + " 1" * count
            if 1 <= count <= 8:
                self.assertEqual(read_net(text), (2, (), (1,) * count))
            else:
                self.refused(text, 1)

    def test_a_row_behind_the_outs(self):
        for row in ("", "outs 0", "gate 8 0 1", "inputs 2", "word", " "):
            self.refused(f"inputs 2\nouts 0\n{row}", 2)
            self.refused(f"inputs 2\ngate 8 0 1\nouts 0\n{row}\n{row}", 3)

    def test_a_line_end_at_an_end(self):
        self.refused("inputs 2\nouts 0\n", 2)
        self.refused("\ninputs 2\nouts 0", 0)
        self.refused("inputs 2\n\nouts 0", 1)
        self.refused("inputs 2\n", 1)
        self.refused("inputs 2\ngate 8 0 1\n", 2)
        self.refused("inputs 2\r\nouts 0", 0)
        self.refused("inputs 2\nouts 0\r", 1)

    def test_of_two_wrong_rows_the_first(self):
        self.refused("input 2\ngate 16 0 1\nouts 0", 0)
        self.refused("inputs 2\ngate 16 0 1\ngate 8 0 9\nouts 0", 1)
        self.refused("inputs 2\ngate 8 0 1\ngate 8 0 9\nouts 99", 2)
        self.refused("inputs 2\ngate 8 0 1\nouts 99\nouts 0", 2)
        self.refused("inputs 2\ngate 8 0 9", 1)

    def test_without_outs_how_many_rows(self):
        self.refused("inputs 2", 1)
        self.refused("inputs 2\ngate 8 0 1", 2)
        self.refused("\n".join(["inputs 2"] + SIXTEEN), 17)
        for count in range(17):
            self.refused("inputs 2" + "\ngate 8 0 1" * count, 1 + count)

    def test_what_is_no_text(self):
        for thing in junk():
            if isinstance(thing, str):
                continue
            self.refused(thing, 0)
        self.refused([["inputs 1", "outs 0"]], 0)
        self.refused(("inputs 1\nouts 0",), 0)
        self.refused((1, (), (0,)), 0)

    def test_texts_that_are_none_of_a_net(self):
        self.refused("", 0)
        self.refused("a", 0)
        self.refused("\n" * 600, 0)
        self.refused("inputs " + "1" * 5000, 0)
        self.refused("inputs 1\nouts " + "1" * 5000, 1)
        self.refused("inputs 2" + "\n" * 500, 1)
        self.refused("".join(map(lambda at: "~ !"[at % 3], range(600))), 0)

    def test_nothing_is_changed(self):
        self.assertEqual(changed_things(read_net, junk()), [])

    def test_the_same_asked_again(self):
        for net, text in SHOWN + SHOWN[::-1]:
            self.assertEqual(read_net(text), net)
            self.assertEqual(show_net(net), text)
            self.refused(text + "\n", len(text.split("\n")))


if __name__ == "__main__":
    unittest.main()
