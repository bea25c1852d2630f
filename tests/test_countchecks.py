"""Papers of tables as anyone may have written them, and their checker [20], and what [2] and [3] say of it."""

import itertools
import random
import unittest

from helper import (
    FORTY, chain, changed_things, crossed, doubled_chain, is_number, is_tuple, junk, ladder, laid_cases,
    mutations, nested, nets_at_bounds, plain_cuts, plain_depths, plain_fewest, random_cover, random_net, small_nets,
    tree, woven_net,
)
from tablecover.countchecks import shown_count
from tablecover.covers import depth_by, leaned
from tablecover.fewest import fewest
from tablecover.plain import plain_cover

COUNT = ("count",)

# Wires 0 to 3; 4 takes 0 and 1; 5 takes 4 and 2; 6 takes 5 and 3.
NET = (4, ((8, 0, 1), (8, 4, 2), (8, 5, 3)), (6,))


def cases(*papers):
    return ("cases", papers)


def least_depth(net, k):
    depths = plain_depths(net, k)
    return max(depths[out] for out in net[2])


def plain_shown(net, k, depth, thing):
    """What the thing shows by the words of [20], or None."""
    depths = plain_depths(net, k)

    def shown(needs, laid, thing):
        if is_tuple(thing, 1) and thing[0] == "count":
            return len(needs)
        left = sorted(set(needs) - laid)
        if not left or not is_tuple(thing, 2) or thing[0] != "cases" or type(thing[1]) is not tuple:
            return None
        gate = left[-1]
        cuts = [cut for cut in plain_cuts(net, gate, k) if all(depths[wire] < needs[gate] for wire in cut)]
        if len(cuts) != len(thing[1]):
            return None
        told = [shown(with_cut(needs, gate, cut), laid | {gate}, paper) for cut, paper in zip(cuts, thing[1])]
        return None if None in told else min(told)

    def with_cut(needs, gate, cut):
        more = {wire: needs[gate] - 1 for wire in cut if wire >= net[0]}
        return {wire: min(by.get(wire, FORTY * FORTY) for by in (needs, more)) for wire in {**needs, **more}}

    return shown({out: depth for out in net[2] if out >= net[0]}, frozenset(), thing)


def random_paper(seed, net, k, depth, stop):
    """A paper that counts at will; the greater stop, the sooner."""
    chance = random.Random(seed)
    return laid_cases(net, k, depth, lambda needs, left: chance.random() < stop)


def papers_of(net, k, depth):
    """Papers laid to some depth: at most so many gates are needed, or at random."""
    for count in range(1, min(5, len(net[1]) + 2)):
        yield laid_cases(net, k, depth, lambda needs, left: len(needs) >= count)
    for seed in range(4):
        yield random_paper(seed, net, k, depth, 0.4)


def some_nets():
    yield from itertools.islice(small_nets(), 0, None, 9)
    for seed in range(12):
        yield woven_net(seed, 3 + seed % 5, 4 + seed % 5)
    yield from [NET, tree(4), tree(8), ladder(4, 6), chain(6, 6), crossed(6), (1, (), (0,)), doubled_chain(1, 4)]


class Shown(unittest.TestCase):
    def test_count_at_once(self):
        for outs, count in (((6,), 1), ((0,), 0), ((0, 3), 0), ((4, 5), 2), ((4, 4, 6, 6), 2), ((0, 6, 4, 5, 6), 3)):
            for k in (2, 3, 4):
                for depth in (3, 4, FORTY):
                    told = shown_count((4, NET[1], outs), k, depth, COUNT)
                    self.assertEqual(told, count)
                    self.assertTrue(is_number(told))

    def test_cases(self):
        # For 2 the gates have one cut each: (0, 1), (2, 4), (3, 5).
        self.assertEqual(shown_count(NET, 2, 3, cases(COUNT)), 2)
        self.assertEqual(shown_count(NET, 2, 3, cases(cases(COUNT))), 3)
        self.assertEqual(shown_count(NET, 2, 3, cases(cases(cases(COUNT)))), 3)
        self.assertIsNone(shown_count(NET, 2, 3, cases(cases(cases(cases(COUNT))))))
        self.assertIsNone(shown_count(NET, 2, 3, cases(cases(cases(cases())))))

    def test_one_paper_for_each_cut(self):
        # For 3 the gate 6 has the cuts (2, 3, 4) and (3, 5), in this order; so 4 is needed, or 5.
        self.assertEqual(plain_cuts(NET, 6, 3), ((2, 3, 4), (3, 5)))
        self.assertEqual(shown_count(NET, 3, 2, cases(COUNT, COUNT)), 2)
        self.assertEqual(shown_count(NET, 3, 2, cases(cases(COUNT), COUNT)), 2)
        # At the depth 2 the gate 5 is needed by 1: so (0, 1, 2) goes, and (2, 4) doesn't.
        self.assertEqual(plain_cuts(NET, 5, 3), ((0, 1, 2), (2, 4)))
        self.assertEqual(shown_count(NET, 3, 2, cases(COUNT, cases(COUNT))), 2)
        self.assertIsNone(shown_count(NET, 3, 2, cases(COUNT, cases(COUNT, COUNT))))
        self.assertEqual(shown_count(NET, 3, 3, cases(COUNT, cases(COUNT, COUNT))), 2)
        self.assertIsNone(shown_count(NET, 3, 3, cases(COUNT, cases(COUNT))))
        self.assertEqual(shown_count(NET, 3, 3, cases(COUNT, cases(COUNT, cases(COUNT)))), 2)
        self.assertIsNone(shown_count(NET, 3, 3, cases(COUNT, cases(cases(COUNT), COUNT))))
        self.assertIsNone(shown_count(NET, 3, 2, cases(cases(COUNT, COUNT), COUNT)))

    def test_the_cuts_order(self):
        # Behind (2, 3, 4) the gate 4 is needed, which has one cut; behind (3, 5) the gate 5, which has two.
        one, two = cases(COUNT), cases(COUNT, COUNT)
        self.assertEqual(shown_count(NET, 3, 9, cases(one, two)), 2)
        self.assertIsNone(shown_count(NET, 3, 9, cases(two, one)))
        self.assertIsNone(shown_count(NET, 3, 9, cases(two, two)))
        self.assertIsNone(shown_count(NET, 3, 9, cases(one, one)))

    def test_the_greatest_gate_is_laid_first(self):
        # For 2 the gate 5 has one cut, the gate 6 has two.
        net = (4, ((8, 0, 1), (8, 2, 3), (9, 4, 4)), (5, 6))
        self.assertEqual(plain_cuts(net, 6, 2), ((0, 1), (4,)))
        self.assertEqual(plain_cuts(net, 5, 2), ((2, 3),))
        self.assertEqual(shown_count(net, 2, 2, cases(COUNT, COUNT)), 2)
        self.assertIsNone(shown_count(net, 2, 2, cases(COUNT)))
        self.assertEqual(shown_count(net, 2, 2, cases(cases(COUNT), cases(COUNT))), 2)
        # An out is needed by the told depth; as it is one deep, at the depth 1 it is told by the inputs.
        self.assertEqual(shown_count(net, 2, 1, cases(COUNT)), 2)
        self.assertIsNone(shown_count(net, 2, 1, cases(COUNT, COUNT)))

    def test_the_least_depth_by_which_it_is_needed(self):
        # The gate 5 is needed by the depth as an out, and by one less where it is in the cut of the gate 6.
        net = (3, ((8, 0, 1), (9, 3, 3), (6, 4, 4), (8, 5, 2)), (5, 6))
        self.assertEqual(plain_cuts(net, 5, 2), ((0, 1), (3,), (4,)))
        self.assertEqual(plain_cuts(net, 6, 2), ((2, 3), (2, 4), (2, 5)))
        three = cases(COUNT, COUNT, COUNT)
        self.assertEqual(shown_count(net, 2, 2, cases(COUNT, COUNT, COUNT)), 2)
        self.assertEqual(shown_count(net, 2, 2, cases(three, three, cases(COUNT))), 2)
        self.assertIsNone(shown_count(net, 2, 2, cases(three, three, three)))
        self.assertEqual(shown_count(net, 2, 3, cases(three, three, three)), 2)
        self.assertIsNone(shown_count(net, 2, 2, cases(cases(COUNT), three, cases(COUNT))))

    def test_a_lesser_depth_from_above_stays(self):
        # The gate 6 is needed by 1 where the gate 8 is laid, which is itself needed by 2 below the gate 9; the gate 7,
        # an out that is laid behind them, needs it by 2 only.
        net = (4, ((8, 0, 1), (9, 4, 4), (6, 5, 5), (8, 6, 2), (8, 6, 3), (8, 8, 2)), (9, 7))
        self.assertEqual(plain_cuts(net, 9, 2), ((2, 8),))
        self.assertEqual(plain_cuts(net, 8, 2), ((3, 4), (3, 5), (3, 6)))
        self.assertEqual(plain_cuts(net, 7, 2), ((2, 4), (2, 5), (2, 6)))
        for last, told in ((cases(COUNT), 4), (cases(COUNT, COUNT, COUNT), None), (COUNT, 4)):
            paper = cases(cases(COUNT, COUNT, cases(COUNT, COUNT, last)))
            self.assertEqual(shown_count(net, 2, 3, paper), told)

    def test_the_least_of_what_its_papers_show(self):
        for net in (woven_net(70, 7, 5), woven_net(92, 5, 6), ladder(4, 6), chain(6, 6)):
            for k in (2, 3, 4):
                depth = least_depth(net, k) + 1
                for paper in papers_of(net, k, depth):
                    self.assertEqual(shown_count(net, k, depth, paper), plain_shown(net, k, depth, paper))

    def test_the_told_paper(self):
        for net in some_nets():
            if len(net[1]) <= 6:
                for k in (2, 3, 4):
                    least = least_depth(net, k)
                    for depth in (least, least + 1, FORTY):
                        cover, paper = fewest(net, k, depth)
                        self.assertEqual(shown_count(net, k, depth, paper), len(cover))

    def test_papers_laid_to_some_depth(self):
        seen = set()
        for net in some_nets():
            for k in (2, 3, 4):
                least = least_depth(net, k)
                for depth in (least, least + 1, FORTY):
                    for paper in papers_of(net, k, depth):
                        told = shown_count(net, k, depth, paper)
                        self.assertTrue(is_number(told))
                        self.assertEqual(told, plain_shown(net, k, depth, paper), (net, k, depth))
                        seen.add(told)
        self.assertGreaterEqual(seen, {0, 1, 2, 3, 4})

    def test_laid_to_the_end(self):
        """Where every gate is laid in every case, what is shown is just the fewest."""
        for net in some_nets():
            if len(net[1]) <= 6:
                for k in (2, 3):
                    for depth in (least_depth(net, k), FORTY):
                        paper = laid_cases(net, k, depth, lambda needs, left: False)
                        self.assertEqual(shown_count(net, k, depth, paper), plain_fewest(net, k, depth))

    def test_nets_at_the_bounds(self):
        for k, count in ((2, 16), (3, 16), (4, 12)):
            for net in itertools.islice(nets_at_bounds(count), 0, None, 3):
                depth = least_depth(net, k)
                outs = {out for out in net[2] if out >= net[0]}
                self.assertEqual(shown_count(net, k, depth, COUNT), len(outs))
                paper = laid_cases(net, k, depth, lambda needs, left: len(needs) >= len(outs) + 2)
                told = shown_count(net, k, depth, paper)
                self.assertTrue(is_number(told))
                self.assertLessEqual(told, len(plain_cover(net, k)))
                self.assertGreaterEqual(told, len(outs))

    def test_sixteen_gates_one_behind_another(self):
        net = chain(8, 16)
        depth = least_depth(net, 2)
        for count in range(1, 8):
            paper = laid_cases(net, 2, depth, lambda needs, left: len(needs) >= count)
            self.assertEqual(shown_count(net, 2, depth, paper), count)


class NoMoreThanAnyCover(unittest.TestCase):
    def test_few_gates(self):
        for net in some_nets():
            if len(net[1]) <= 6:
                for k in (2, 3, 4):
                    least = least_depth(net, k)
                    for depth in (least, least + 1, FORTY):
                        count = plain_fewest(net, k, depth)
                        for seed in range(6):
                            paper = random_paper(seed, net, k, depth, 0.2)
                            self.assertLessEqual(shown_count(net, k, depth, paper), count)

    def test_more_gates(self):
        tried = 0
        for seed in range(30):
            net = woven_net(seed, 4 + seed % 5, 9)
            for k in (2, 3):
                covers = [plain_cover(net, k)] + [leaned(net, random_cover(turn, net, k)) for turn in range(12)]
                for depth in {depth_by(net, cover) for cover in covers}:
                    count = min(len(cover) for cover in covers if depth_by(net, cover) <= depth)
                    paper = laid_cases(net, k, depth, lambda needs, left: len(needs) >= 4)
                    self.assertLessEqual(shown_count(net, k, depth, paper), count)
                    tried += 1
        self.assertGreater(tried, 60)


class NoPaper(unittest.TestCase):
    def none(self, thing, net=NET, k=3, depth=2):
        self.assertIsNone(shown_count(net, k, depth, thing), repr(thing)[:120])

    def test_the_wrong_number_of_papers(self):
        for count in (0, 1, 3, 4, 400):
            self.none(cases(*[COUNT] * count))
        self.assertEqual(shown_count(NET, 3, 2, cases(COUNT, COUNT)), 2)
        for net in (ladder(4, 6), chain(8, 12), tree(8)):
            for k in (2, 3, 4):
                depth = least_depth(net, k) + 1
                paper = laid_cases(net, k, depth, lambda needs, left: len(needs) >= 3)
                word, papers = paper
                self.assertIsNotNone(shown_count(net, k, depth, paper))
                self.none((word, papers[:-1]), net, k, depth)
                self.none((word, papers[1:]), net, k, depth)
                self.none((word, papers + papers[-1:]), net, k, depth)
                self.none((word, papers + (None,)), net, k, depth)

    def test_another_word(self):
        for word in ("", "Count", "count ", " count", "counts", "cases", "case", "COUNT", "coun", None, 0, ("count",)):
            self.none((word,))
        for word in ("", "Cases", "cases ", "case", "count", None, 0, True, ("cases",), ["cases"]):
            self.none((word, (COUNT, COUNT)))

    def test_where_no_needed_gate_is_left(self):
        for net in ((1, (), (0,)), (4, NET[1], (0, 3))):
            for depth in (0, 1, FORTY):
                self.assertEqual(shown_count(net, 2, depth, COUNT), 0)
                for thing in (cases(), cases(COUNT), cases(COUNT, COUNT), cases(cases())):
                    self.none(thing, net, 2, depth)
        net = (2, ((8, 0, 1),), (2,))
        self.assertEqual(shown_count(net, 2, 1, cases(COUNT)), 1)
        for thing in (cases(cases()), cases(cases(COUNT)), cases(cases(COUNT, COUNT)), cases(cases(cases(COUNT)))):
            self.none(thing, net, 2, 1)

    def test_one_of_many_is_no_paper(self):
        for wrong in (None, (), cases(), ("count", ()), ["count"], "count", (COUNT,), cases(cases()), True):
            self.none(cases(COUNT, wrong))
            self.none(cases(wrong, COUNT))
            self.none(cases(wrong, wrong))
        net = ladder(4, 6)
        paper = laid_cases(net, 3, 3, lambda needs, left: len(needs) >= 3)
        for at in range(len(paper[1])):
            papers = paper[1][:at] + (None,) + paper[1][at + 1:]
            self.none(("cases", papers), net, 3, 3)

    def test_lists_truths_and_texts(self):
        for thing in (
            ["count"], "count", "cases", ["cases", (COUNT, COUNT)], ("cases", [COUNT, COUNT]),
            ("cases", (COUNT, ["count"])), ("cases", (["count"], COUNT)), ("count", ()), ("count", "count"),
            ("count", None), ("cases",), ("cases", (COUNT, COUNT), ()), ("cases", COUNT),
            ("cases", COUNT, COUNT), ((COUNT, COUNT), "cases"), ("cases", "co"), ("cases", 2), ("cases", None),
            ("cases", {0: COUNT, 1: COUNT}), {"count": ()}, True, False, None, 0, 1, 2, (),
            ("cases", (True, True)), ("cases", ("count", "count")), (COUNT,), (COUNT, COUNT), ((),),
            ("cases", ((), ())),
        ):
            self.none(thing)

    def test_anything(self):
        for thing in junk():
            for net in (NET, (1, (), (0,)), chain(8, 12)):
                depth = least_depth(net, 3)
                self.none(thing, net, 3, depth)
                self.none(("cases", thing), net, 3, depth)
                self.none((thing,), net, 3, depth)
                self.none((thing, (COUNT, COUNT)), net, 3, depth)
            self.none(cases(COUNT, thing))
            self.none(cases(thing, COUNT))

    def test_thirty_deep(self):
        net = chain(8, 16)
        for wrap in (lambda thing: (thing,), lambda thing: [thing], lambda thing: {0: thing},
                     lambda thing: ("count", thing), lambda thing: ("cases", thing)):
            for depth in range(31):
                self.none(nested(wrap, depth), net, 2, 16)
        for depth in range(15):
            self.none(nested(lambda thing: cases(thing), depth), net, 2, 16)
            self.none(nested(lambda thing: cases(thing, thing), min(depth, 9)), net, 2, 16)

    def test_changed_at_one_place(self):
        right = wrong = 0
        for net, k in ((NET, 3), (NET, 4), (ladder(4, 6), 2), (chain(6, 5), 3), (woven_net(92, 5, 6), 3), (tree(8), 2)):
            least = least_depth(net, k)
            for depth in (least, least + 1):
                paper = laid_cases(net, k, depth, lambda needs, left: len(needs) >= 3)
                for thing in mutations(paper):
                    expected = plain_shown(net, k, depth, thing)
                    self.assertEqual(shown_count(net, k, depth, thing), expected, (net, k, depth, thing))
                    right, wrong = right + (expected is not None), wrong + (expected is None)
        self.assertGreater(right, 10)
        self.assertGreater(wrong, 1000)

    def test_of_another_depth(self):
        """A paper that has a case for each cut within its own depth has too many or too few within another."""
        net = woven_net(92, 5, 6)
        found = 0
        for one, other in itertools.permutations((3, 4, 5), 2):
            paper = laid_cases(net, 3, one, lambda needs, left: False)
            told = shown_count(net, 3, other, paper)
            self.assertEqual(told, plain_shown(net, 3, other, paper))
            found += told is None
        self.assertGreater(found, 0)

    def test_somewhat_beyond_the_bounds(self):
        for depth in (-1, 0, 1):
            self.assertEqual(shown_count(NET, 2, depth, COUNT), 1)
            self.none(cases(), NET, 2, depth)
            self.none(cases(COUNT), NET, 2, depth)
        self.assertEqual(shown_count(ladder(8, 18), 4, 18, COUNT), 1)
        self.assertEqual(shown_count(tree(4), 1, 9, cases(COUNT)), 3)


class AskedAgain(unittest.TestCase):
    def test_nothing_is_changed(self):
        self.assertEqual(changed_things(lambda thing: shown_count(NET, 3, 2, thing), junk()), [])
        lists = [["cases", [["count"], ["count"]]], ("cases", [COUNT, COUNT]), ("cases", (COUNT, ["count"])), {"a": []}]
        self.assertEqual(changed_things(lambda thing: shown_count(NET, 3, 2, thing), lists), [])

    def test_the_same_asked_again(self):
        asked = []
        for net in (NET, ladder(4, 6), chain(8, 12), random_net(9, 5, 7)):
            depth = least_depth(net, 3)
            for thing in (COUNT, None, *papers_of(net, 3, depth), cases(), [COUNT], *papers_of(net, 2, depth)):
                asked.append((net, 3, depth, thing))
        first = [shown_count(*question) for question in asked]
        again = [shown_count(*question) for question in asked[::-1]]
        self.assertEqual(first, again[::-1])


if __name__ == "__main__":
    unittest.main()
