"""The refusals [2]."""

import unittest

from tablecover.errors import CoverError, NoChange, NoDepth, NoMatch, NoRow, NoText, TooMany

NUMBERED = [NoText, NoDepth]
WORDED = [TooMany, NoMatch, NoChange, NoRow]


def made(kind):
    return kind(3) if kind in NUMBERED else kind("a text")


class Errors(unittest.TestCase):
    def test_each_is_caught_as_what_it_is(self):
        for kind in NUMBERED + WORDED:
            for caught in (kind, CoverError, ValueError):
                with self.subTest(kind=kind, caught=caught):
                    with self.assertRaises(caught) as held:
                        raise made(kind)
                    self.assertIs(type(held.exception), kind)

    def test_none_is_caught_as_another(self):
        for kind in NUMBERED + WORDED:
            for other in NUMBERED + WORDED:
                with self.subTest(kind=kind, other=other):
                    self.assertEqual(isinstance(made(kind), other), kind == other)

    def test_each_stands_under_the_common_one_alone(self):
        self.assertEqual(CoverError.__bases__, (ValueError,))
        for kind in NUMBERED + WORDED:
            self.assertEqual(kind.__bases__, (CoverError,))

    def test_the_common_one_is_none_of_them(self):
        refusal = CoverError("a text")
        for kind in NUMBERED + WORDED:
            self.assertNotIsInstance(refusal, kind)

    def test_fields(self):
        for number in (0, 1, 17, 600):
            self.assertEqual(NoText(number).row, number)
            self.assertEqual(NoDepth(number).least, number)
        self.assertIs(type(NoText(0).row), int)
        self.assertIs(type(NoDepth(0).least), int)

    def test_fields_are_each_ones_own(self):
        first, second = NoText(1), NoText(2)
        self.assertEqual((first.row, second.row), (1, 2))
        self.assertFalse(hasattr(first, "least"))
        self.assertFalse(hasattr(NoDepth(1), "row"))

    def test_made_with_a_text_they_tell_it(self):
        for kind in WORDED:
            self.assertIn("a text", str(kind("a text")))


if __name__ == "__main__":
    unittest.main()
