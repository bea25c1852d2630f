"""Likenesses as anyone may have written them, and their checker [23], and what [2] and [3] say of it."""

import itertools
import unittest

from helper import (
    FORTY, chain, changed_things, crossed, doubled_chain, drawn_likeness, junk, ladder, mutations, nested,
    nets_at_bounds, plain_first_unlike, plain_likeness_holds, random_net, rebuilt, small_nets, tree, woven_net,
)
from tablecover.errors import CoverError, NoMatch
from tablecover.likeness import likeness
from tablecover.likenesschecks import likeness_holds

# Wires 0, 1, 2; 3 is 0 and 1; 4 is 3 unlike 2; 5 is not 4.
ONE = (3, ((8, 0, 1), (6, 3, 2), (1, 4, 4)), (4, 5))
# Wires 0, 1, 2; 3 is not both 0 and 1; 4 is not 3; 5 is 2 unlike 4; 6 is not 5.
OTHER = (3, ((7, 0, 1), (1, 3, 3), (6, 2, 4), (1, 5, 5)), (5, 6))
# 3 and 4 are alike by the inputs, so 4 and 5, so 5 and 6.
STEPS = ((3, 4, ((0, 0), (1, 1))), (4, 5, ((2, 2), (3, 4))), (5, 6, ((4, 5),)))
LEADS = STEPS[:2] + ((5, 6, ((2, 2), (3, 4))),)


def alike_nets():
    """Pairs of nets that do the same."""
    for seed, net in enumerate(itertools.islice(small_nets(), 0, None, 11)):
        yield net, rebuilt(seed, net)
    for seed in range(16):
        net = woven_net(seed, 1 + seed % 8, 3 + seed % 9)
        yield net, rebuilt(seed, net)
    for seed, net in enumerate(itertools.islice(nets_at_bounds(11), 0, None, 6)):
        yield net, rebuilt(seed, net)


class Holds(unittest.TestCase):
    def holds(self, thing, one=ONE, other=OTHER):
        self.assertIs(likeness_holds(one, other, thing), True, (one, other, thing))
        self.assertTrue(plain_likeness_holds(one, other, thing))

    def test_the_told_one(self):
        for one, other in alike_nets():
            self.holds(likeness(one, other), one, other)
            self.holds(likeness(other, one), other, one)
            self.holds(likeness(one, one), one, one)

    def test_by_another_hand(self):
        sizes = set()
        for seed, (one, other) in enumerate(alike_nets()):
            thing = drawn_likeness(seed, one, other)
            self.holds(thing, one, other)
            sizes |= {len(pairs) for first, second, pairs in thing}
        self.assertEqual(sizes, set(range(1, 9)))

    def test_other_steps(self):
        inputs = ((0, 0), (1, 1), (2, 2))
        self.holds(LEADS)
        self.holds(((4, 5, inputs), (5, 6, inputs)))
        self.holds(((5, 6, inputs), (4, 5, inputs)))
        self.holds(((4, 5, inputs), (5, 6, ((4, 5),))))

    def test_more_pairs_than_are_needed(self):
        inputs = ((0, 0), (1, 1), (2, 2))
        self.holds(((3, 4, inputs), (4, 5, inputs + ((3, 4),)), (5, 6, ((0, 0), (4, 5)))))

    def test_steps_that_nothing_needs(self):
        self.holds(STEPS + STEPS)
        self.holds(STEPS + ((3, 4, ((3, 4),)), (0, 0, ((0, 0),)), (4, 5, ((4, 5),))))
        self.holds(((0, 0, ((0, 0),)), (1, 1, ((1, 1), (2, 2)))) + STEPS)

    def test_a_step_of_inputs_shows_its_pair(self):
        one, other = (2, ((10, 0, 0),), (2, 1)), (2, ((12, 1, 0),), (0, 1))
        self.holds(((2, 0, ((0, 0),)),), one, other)
        self.holds(((2, 0, ((0, 0), (1, 1))), (0, 0, ((0, 0),))), one, other)
        # The input 0 and the gate 2, and by them the two gates.
        self.holds(((0, 2, ((0, 0), (1, 1))), (2, 2, ((0, 2),))), one, (2, ((12, 1, 0),), (2, 1)))

    def test_none_where_the_outs_are_the_same_inputs(self):
        self.holds((), (2, (), (1, 0, 1)), (2, ((8, 0, 1),), (1, 0, 1)))
        self.holds((), (8, ladder(8, 16)[1], (7,)), (8, (), (7,)))
        self.holds(((2, 2, ((0, 0), (1, 1))),), (2, ((8, 0, 1),), (1,)), (2, ((8, 0, 1),), (1,)))

    def test_a_wire_that_two_pairs_may_have_in_two_steps(self):
        one = (1, ((10, 0, 0),), (1, 1))
        other = (1, ((10, 0, 0), (10, 0, 0)), (1, 2))
        self.holds(((1, 1, ((0, 0),)), (1, 2, ((0, 0),))), one, other)

    def test_sixty_steps(self):
        for count in range(1, 58):
            self.holds(STEPS * (count // 3 + 1) if count < 57 else STEPS[:1] * 57 + STEPS)
        self.holds(STEPS[:1] * 58 + STEPS[1:])

    def test_one_to_eight_pairs(self):
        net = (8, tree(8)[1], (14,))
        for count in range(1, 9):
            pairs = tuple((wire, wire) for wire in range(count))
            steps = ((0, 0, pairs), (14, 14, tuple((wire, wire) for wire in range(8))))
            self.holds(steps, net, net)

    def test_second_wires_in_any_order(self):
        # The wires 2 and 3 of the one are the wires 3 and 2 of the other.
        one = (2, ((8, 0, 1), (14, 0, 1), (2, 2, 3)), (4,))
        other = (2, ((14, 0, 1), (8, 0, 1), (4, 2, 3)), (4,))
        inputs = ((0, 0), (1, 1))
        self.holds(((2, 3, inputs), (3, 2, inputs), (4, 4, ((2, 3), (3, 2)))), one, other)


class Refused(unittest.TestCase):
    def refused(self, thing, one=ONE, other=OTHER):
        self.assertIs(likeness_holds(one, other, thing), False, (one, other, repr(thing)[:200]))
        self.assertFalse(plain_likeness_holds(one, other, thing))

    def holds(self, thing, one=ONE, other=OTHER):
        self.assertIs(likeness_holds(one, other, thing), True, (one, other, thing))

    def test_sixty_one_steps(self):
        self.holds(STEPS[:1] * 58 + STEPS[1:])
        self.refused(STEPS[:1] * 59 + STEPS[1:])
        self.refused(STEPS * 21)
        self.refused(((0, 0, ((0, 0),)),) * 61, (1, (), (0,)), (1, (), (0,)))
        self.holds(((0, 0, ((0, 0),)),) * 60, (1, (), (0,)), (1, (), (0,)))

    def test_pairs_that_do_not_rise(self):
        self.refused((STEPS[0], (4, 5, ((3, 4), (2, 2))), STEPS[2]))
        inputs = ((0, 0), (1, 1), (2, 2))
        for turned in itertools.permutations(inputs):
            steps = ((4, 5, turned), (5, 6, inputs))
            (self.holds if turned == inputs else self.refused)(steps)

    def test_a_pair_twice(self):
        self.refused(((3, 4, ((0, 0), (0, 0), (1, 1))),) + STEPS[1:])
        self.refused(STEPS[:2] + ((5, 6, ((4, 5), (4, 5))),))

    def test_none_or_nine_pairs(self):
        for at in range(3):
            first, second, pairs = STEPS[at]
            self.refused(STEPS[:at] + ((first, second, ()),) + STEPS[at + 1:])
        self.refused(((1, 1, ()),), (1, ((0, 0, 0),), (1,)), (1, ((0, 0, 0),), (1,)))
        # The gate 8 takes the inputs 0 and 1; with it there are nine wires.
        net = (8, ((8, 0, 1),), (8,))
        inputs = tuple((wire, wire) for wire in range(8))
        self.holds(((8, 8, inputs), (0, 0, inputs)), net, net)
        self.holds(((8, 8, inputs), (0, 0, inputs[:7] + ((8, 8),))), net, net)
        self.refused(((8, 8, inputs), (0, 0, inputs + ((8, 8),))), net, net)

    def test_a_first_wire_twice(self):
        one = (1, ((10, 0, 0),), (1,))
        other = (1, ((10, 0, 0), (10, 1, 1)), (2,))
        steps = ((1, 1, ((0, 0),)), (1, 2, ((0, 0),)))
        self.holds(steps + ((1, 2, ((1, 2),)),), one, other)
        self.holds(steps + ((1, 2, ((1, 1),)),), one, other)
        self.refused(steps + ((1, 2, ((1, 1), (1, 2))),), one, other)

    def test_a_second_wire_twice(self):
        one = (1, ((10, 0, 0), (10, 1, 1)), (2,))
        other = (1, ((10, 0, 0),), (1,))
        steps = ((1, 1, ((0, 0),)), (2, 1, ((0, 0),)))
        self.holds(steps + ((2, 1, ((2, 1),)),), one, other)
        self.holds(steps + ((2, 1, ((1, 1),)),), one, other)
        self.refused(steps + ((2, 1, ((1, 1), (2, 1))),), one, other)

    def test_a_pair_that_is_not_shown(self):
        self.refused(STEPS[1:])
        self.refused((STEPS[0], STEPS[2]))
        self.refused(STEPS[:2] + ((5, 6, ((2, 2), (3, 5))),))
        # Two unlike inputs, though their nets would do the same with them.
        self.refused(((2, 2, ((0, 1), (1, 0))),), (2, ((8, 0, 1),), (2,)), (2, ((8, 0, 1),), (2,)))
        # Alike wires, that no step has.
        self.refused((STEPS[0], (4, 5, ((2, 2), (3, 4), (4, 5))), STEPS[2]))
        # The same number of a gate is not the same input.
        self.refused(((5, 5, ((4, 4),)),), ONE, (3, ONE[1], (4, 5)))

    def test_a_pair_that_is_shown_the_other_way_about(self):
        net = (1, ((10, 0, 0), (10, 1, 1)), (2,))
        self.holds(((1, 2, ((0, 0),)), (2, 2, ((1, 2),))), net, net)
        self.holds(((2, 1, ((0, 0),)), (2, 2, ((2, 1),))), net, net)
        self.refused(((1, 2, ((0, 0),)), (2, 2, ((2, 1),))), net, net)
        self.refused(((2, 1, ((0, 0),)), (2, 2, ((1, 2),))), net, net)

    def test_shown_only_by_a_later_step(self):
        for turned in itertools.permutations(STEPS):
            (self.holds if turned == STEPS else self.refused)(turned)
        for turned in itertools.permutations(LEADS):
            (self.holds if turned in (LEADS, (LEADS[0], LEADS[2], LEADS[1])) else self.refused)(turned)

    def test_shown_only_by_the_step_itself(self):
        self.refused(STEPS[:2] + ((5, 6, ((5, 6),)),))
        self.refused(((4, 5, ((4, 5),)), (5, 6, ((5, 6),))))
        self.refused(((4, 4, ((4, 4),)), (5, 5, ((5, 5),))), ONE, ONE)

    def test_first_wires_that_do_not_tell(self):
        # The gate 3 hands the input 0 on whatever the input 1 is, but a way leads from it.
        one, other = (2, ((10, 0, 1),), (2,)), (2, ((10, 0, 0),), (2,))
        self.holds(((2, 2, ((0, 0), (1, 1))),), one, other)
        self.refused(((2, 2, ((0, 0),)),), one, other)
        self.refused(((2, 2, ((1, 1),)),), one, other)
        self.refused(((3, 4, ((0, 0),)),) + STEPS[1:])
        self.refused((STEPS[0], (4, 5, ((3, 4),)), STEPS[2]))
        self.refused(((0, 0, ((1, 1),)),), (2, (), (0,)), (2, (), (0,)))

    def test_second_wires_that_do_not_tell(self):
        one, other = (2, ((10, 0, 0),), (2,)), (2, ((10, 0, 1),), (2,))
        self.holds(((2, 2, ((0, 0), (1, 1))),), one, other)
        self.refused(((2, 2, ((0, 0),)),), one, other)
        # For the one 3 is told by 0 and 1, for the other 5 isn't.
        self.refused(((3, 5, ((0, 0), (1, 1))),) + STEPS)

    def test_contents_that_differ_at_one_number(self):
        for many in (1, 2, 3, 8):
            inputs = tuple((wire, wire) for wire in range(many))
            rest = tuple((8, many + at, at + 2) for at in range(many - 2))
            for kind in range(16):
                one = (many, ((8, 0, min(1, many - 1)),) + rest, (many + len(rest),))
                other = (many, ((kind, 0, min(1, many - 1)),) + rest, (many + len(rest),))
                same = plain_first_unlike(one, other) is None
                (self.holds if same else self.refused)(((many + len(rest), many + len(rest), inputs),), one, other)

    def test_contents_in_the_pairs_order(self):
        # 0 but not 1, and 1 but not 0.
        one, other = (2, ((2, 0, 1),), (2,)), (2, ((4, 0, 1),), (2,))
        self.refused(((2, 2, ((0, 0), (1, 1))),), one, other)
        self.holds(((2, 2, ((0, 0), (1, 1))),), one, (2, ((4, 1, 0),), (2,)))

    def test_unlike_contents_of_alike_wires(self):
        """Alike at each row, but not where the wires of the pairs have worths that no row makes."""
        # 2 is 0 and 1, 3 is 0 or 1; 4 is 2 or 3 in the one, 3 alone in the other: 2 without 3 there never is.
        one = (2, ((8, 0, 1), (14, 0, 1), (14, 2, 3)), (4,))
        other = (2, ((8, 0, 1), (14, 0, 1), (12, 2, 3)), (4,))
        inputs = ((0, 0), (1, 1))
        self.holds(((4, 4, inputs),), one, other)
        self.refused(((2, 2, inputs), (3, 3, inputs), (4, 4, ((2, 2), (3, 3)))), one, other)

    def test_an_out_that_no_step_shows(self):
        self.refused(())
        for count in range(3):
            self.refused(STEPS[:count])
        self.refused(STEPS, ONE, (3, OTHER[1], (6, 5)))
        self.refused(STEPS, (3, ONE[1], (4, 5, 0)), (3, OTHER[1], (5, 6, 1)))
        self.holds(STEPS, (3, ONE[1], (4, 5, 0, 5, 3)), (3, OTHER[1], (5, 6, 0, 6, 4)))
        self.refused(STEPS, (3, ONE[1], (4, 5, 0, 5, 4)), (3, OTHER[1], (5, 6, 0, 6, 4)))
        # A pair of a step shows nothing by itself.
        self.refused(((0, 0, ((0, 0),)),), (1, ((10, 0, 0),), (1,)), (1, ((10, 0, 0),), (1,)))

    def test_wires_that_are_not_there(self):
        for wire in (-1, -2, -3, 6, 7, FORTY, -FORTY):
            self.refused(STEPS + ((wire, 4, ((0, 0), (1, 1))),))
            self.refused(STEPS + ((3, 4, ((0, 0), (1, 1), (wire, 5))),))
            self.refused(STEPS + ((3, 4, ((wire, 0), (1, 1))),))
        for wire in (-1, -2, -3, 7, 8, FORTY, -FORTY):
            self.refused(STEPS + ((3, wire, ((0, 0), (1, 1))),))
            self.refused(STEPS + ((3, 4, ((0, 0), (1, 1), (2, wire))),))
            self.refused(STEPS + ((3, 4, ((0, wire), (1, 1))),))
        # The wire 6 is there in the second net alone.
        self.refused(STEPS + ((6, 6, ((5, 6),)),))

    def test_truths_and_lists(self):
        net = (1, ((9, 0, 0),), (1,))
        self.holds(((1, 1, ((0, 0),)),), net, net)
        for thing in (
            ((True, 1, ((0, 0),)),), ((1, True, ((0, 0),)),), ((1, 1, ((False, 0),)),), ((1, 1, ((0, False),)),),
            [(1, 1, ((0, 0),))], ([1, 1, ((0, 0),)],), ((1, 1, [(0, 0)]),), ((1, 1, ([0, 0],)),), {0: 1},
            ((1, 1, ((0, 0),), ()),), ((1, 1),), ((1, 1, (0, 0)),), (1, 1, ((0, 0),)), ((1, 1, ((0,),)),),
            ((1, 1, ((0, 0, 0),)),), ((1, 1, {0: 0}),), (("1", 1, ((0, 0),)),), ((1, 1, (("0", "0"),)),), (None,),
            ((1, 1, None),), ((1, None, ((0, 0),)),), ((1, 1, "00"),), "", None, 0, True, [], {}, ((),),
            ((1, 1, ((None, None),)),), ((1, 1, (None,)),), ((1, 1, ((0, 0),)), None), (((1, 1), ((0, 0),)),),
        ):
            self.refused(thing, net, net)

    def test_anything(self):
        for thing in junk():
            self.refused(thing)
            self.refused((thing,))
            self.refused(STEPS + (thing,))
            self.refused((thing,) + STEPS)
            for at in range(3):
                first, second, pairs = STEPS[at]
                for other in ((thing, second, pairs), (first, second, thing), (first, second, (thing,) + pairs)):
                    if other != STEPS[at]:
                        self.judge(STEPS[:at] + (other,) + STEPS[at + 1:])
                self.judge(STEPS[:at] + ((first, thing, pairs),) + STEPS[at + 1:])
                self.judge(STEPS[:at] + ((first, second, ((thing, 0),) + pairs),) + STEPS[at + 1:])
                self.judge(STEPS[:at] + ((first, second, ((0, thing),) + pairs),) + STEPS[at + 1:])

    def judge(self, thing, one=ONE, other=OTHER):
        expected = plain_likeness_holds(one, other, thing)
        self.assertIs(likeness_holds(one, other, thing), expected, (one, other, repr(thing)[:200]))
        return expected

    def test_thirty_deep(self):
        for wrap in (lambda thing: (thing,), lambda thing: [thing], lambda thing: {0: thing},
                     lambda thing: (0, 0, thing), lambda thing: (0, 0, (thing,))):
            for depth in range(1, 31):
                self.refused(nested(wrap, depth))

    def test_changed_at_one_place(self):
        right = wrong = 0
        asked = [(ONE, OTHER, STEPS), (ONE, OTHER, LEADS), (ONE, ONE, likeness(ONE, ONE))]
        for seed in range(6):
            one = woven_net(seed, 2 + seed % 3, 4)
            other = rebuilt(seed, one, 6)
            asked.append((one, other, drawn_likeness(seed, one, other, 5)))
        for one, other, steps in asked:
            for thing in mutations(steps):
                expected = self.judge(thing, one, other)
                right, wrong = right + expected, wrong + (not expected)
        self.assertGreater(right, 100)
        self.assertGreater(wrong, 2000)

    def test_none_is_let_by_of_nets_that_are_unlike(self):
        tried = 0
        for seed, (one, other) in enumerate(alike_nets()):
            things = [likeness(one, other), drawn_likeness(seed, one, other), ()]
            for at in range(len(other[1])):
                kind, *places = other[1][at]
                for turn in (1, 5, 15):
                    gates = other[1][:at] + (((kind + turn) % 16, *places),) + other[1][at + 1:]
                    unlike = (other[0], gates, other[2])
                    if plain_first_unlike(one, unlike) is not None:
                        tried += 1
                        for thing in things:
                            self.assertIs(likeness_holds(one, unlike, thing), False)
        self.assertGreater(tried, 200)

    def test_drawn_steps_of_unlike_nets(self):
        """Steps by which two nets do the same but for one row."""
        for seed in range(40):
            many = 2 + seed % 4
            net = random_net(seed, many, 6)
            one, other = (many, net[1], (many + 5,)), (many, net[1], (many + 4,))
            inputs = tuple((wire, wire) for wire in range(many))
            steps = tuple((wire, wire, inputs) for wire in range(many, many + 6))
            self.assertIs(likeness_holds(one, other, steps), False)
            last = steps + ((many + 5, many + 4, inputs),)
            self.assertIs(likeness_holds(one, other, last), plain_first_unlike(one, other) is None)

    def test_no_match_goes_ahead(self):
        pairs = [
            ((1, (), (0,)), (2, (), (0,))), ((1, (), (0,)), (1, (), (0, 0))), ((2, (), (0, 0)), (1, (), (0,))),
            (chain(8, 16), chain(7, 16)), (ONE, (3, OTHER[1], (5,))), (ONE, (3, OTHER[1], (5, 6, 6))),
            (ONE, (4, ((8, 0, 1), (6, 4, 2), (1, 5, 5)), (5, 6))),
        ]
        for one, other in pairs:
            for thing in junk() + [(), STEPS, None, ((0, 0, ((0, 0),)),)]:
                for nets in ((one, other), (other, one)):
                    with self.assertRaises(NoMatch) as held:
                        likeness_holds(*nets, thing)
                    self.assertIs(type(held.exception), NoMatch)
                    self.assertIsInstance(held.exception, CoverError)

    def test_nothing_is_changed(self):
        things = junk() + [list(STEPS), [list(step) for step in STEPS], ([3, 4, ((0, 0), (1, 1))],) + STEPS[1:]]
        self.assertEqual(changed_things(lambda thing: likeness_holds(ONE, OTHER, thing), things), [])
        self.assertEqual(changed_things(lambda thing: likeness_holds(ONE, tree(4), thing), things), [])

    def test_the_same_asked_again(self):
        asked = [(STEPS, True), ((), False), (STEPS[1:], False), ([STEPS], False), (LEADS, True), (None, False)]
        for thing, told in asked + asked[::-1]:
            self.assertIs(likeness_holds(ONE, OTHER, thing), told)
            with self.assertRaises(NoMatch):
                likeness_holds(ONE, tree(4), thing)

    def test_at_the_bounds_in_good_time(self):
        for net in (crossed(16), ladder(8, 16), chain(8, 16), doubled_chain(8, 16)):
            inputs = tuple((wire, wire) for wire in range(8))
            steps = tuple((8 + at % 16, 8 + at % 16, inputs) for at in range(60))
            self.assertIs(likeness_holds(net, net, steps), True)


if __name__ == "__main__":
    unittest.main()
