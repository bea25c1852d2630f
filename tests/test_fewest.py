"""The fewest tables, with the paper that fewer don't do [19], and what [2] and [3] say of them."""

import itertools
import unittest

from helper import (
    FORTY, all_covers, chain, doubled_chain, is_plain, ladder, laid_cases, plain_depths, plain_fewest, random_net,
    small_nets, tree, woven_net,
)
from tablecover.countchecks import shown_count
from tablecover.covers import cover_holds, depth_by
from tablecover.errors import CoverError, NoDepth, TooMany
from tablecover.fewest import fewest
from tablecover.plain import plain_cover


# For 3 each has fewer tables where it may be one deeper than it must.
DEEPER_WITH_FEWER = [
    (8, ((7, 3, 6), (7, 4, 1), (7, 8, 9), (7, 10, 7)), (10, 11)),
    (4, ((7, 2, 3), (7, 1, 0), (7, 3, 1), (7, 4, 5), (7, 5, 5), (7, 6, 7)), (9, 9)),
    (8, ((7, 4, 2), (7, 5, 8), (7, 5, 2), (7, 9, 0), (7, 10, 11)), (12, 11)),
    (5, ((7, 0, 2), (7, 3, 2), (7, 5, 5), (7, 7, 4), (7, 8, 6), (7, 9, 5)), (8, 10, 7)),
]


# For 3 each has fewer tables than the plain cover, within the same depth.
FEWER_THAN_PLAIN = [woven_net(70, 7, 5), woven_net(92, 5, 6), woven_net(134, 5, 6), woven_net(155, 8, 6)]


def few_nets():
    """Nets of at most six gates."""
    for net in itertools.islice(small_nets(), 0, None, 3):
        if len(net[1]) <= 6:
            yield net
    for seed in range(40):
        yield random_net(3000 + seed, 3 + seed % 6, 3 + seed % 4)
        yield woven_net(seed, 3 + seed % 6, 4 + seed % 3)
    yield from DEEPER_WITH_FEWER + FEWER_THAN_PLAIN
    yield from [tree(4), chain(8, 6), chain(3, 6), ladder(8, 6), ladder(3, 6), doubled_chain(1, 6), chain(5, 4)]
    # A gate that several outs take may have a table of its own, or be in the insides of theirs.
    yield (4, ((8, 0, 1), (8, 4, 2), (8, 4, 3), (8, 5, 6)), (5, 6, 7))
    yield (4, ((8, 0, 1), (9, 4, 4), (6, 5, 5), (8, 6, 2), (8, 6, 3), (8, 8, 2)), (9, 7))
    yield (6, ((8, 0, 1), (6, 6, 2), (6, 6, 3), (6, 6, 4), (6, 6, 5)), (7, 8, 9, 10))


def least_depth(net, k):
    told = plain_depths(net, k)
    return max(told[out] for out in net[2])


def is_count_paper(thing):
    """Whether the thing is made as papers of tables are."""
    if thing == ("count",):
        return True
    return type(thing) is tuple and thing[:1] == ("cases",) and all(is_count_paper(paper) for paper in thing[1])


class Fewest(unittest.TestCase):
    def judge(self, net, k, depth):
        told = fewest(net, k, depth)
        self.assertIs(type(told), tuple)
        cover, paper = told
        self.assertTrue(is_plain(cover))
        self.assertIs(cover_holds(net, k, cover), True, (net, k, depth, cover))
        self.assertLessEqual(depth_by(net, cover), depth)
        self.assertEqual(len(cover), plain_fewest(net, k, depth), (net, k, depth))
        self.assertTrue(is_count_paper(paper))
        self.assertEqual(paper, laid_cases(net, k, depth, lambda needs, left: len(needs) >= len(cover)))
        self.assertEqual(shown_count(net, k, depth, paper), len(cover))
        return cover, paper

    def test_ordinary_ones(self):
        net = (3, ((8, 0, 1), (8, 3, 2)), (4,))
        self.assertEqual(fewest(net, 2, 2), (((3, (0, 1)), (4, (2, 3))), ("cases", (("count",),))))
        self.assertEqual(fewest(net, 3, 1), (((4, (0, 1, 2)),), ("count",)))
        self.assertEqual(fewest(net, 3, 5), (((4, (0, 1, 2)),), ("count",)))

    def test_no_tables(self):
        for net in ((1, (), (0,)), (8, (), (7, 7, 0)), (3, ((8, 0, 1), (8, 3, 2)), (1, 0))):
            for k in (2, 3, 4):
                for depth in (0, 1, FORTY):
                    self.assertEqual(fewest(net, k, depth), ((), ("count",)))

    def test_fewer_where_they_may_be_deeper(self):
        for net in DEEPER_WITH_FEWER:
            self.assertEqual(least_depth(net, 3), 2)
            few, fewer = fewest(net, 3, 2)[0], fewest(net, 3, 3)[0]
            self.assertEqual(len(few), len(fewer) + 1)
            self.assertEqual((depth_by(net, few), depth_by(net, fewer)), (2, 3))

    def test_never_more_than_the_plain_cover(self):
        for net in few_nets():
            for k in (2, 3, 4):
                plain = plain_cover(net, k)
                self.assertLessEqual(len(fewest(net, k, depth_by(net, plain))[0]), len(plain))
        for net in FEWER_THAN_PLAIN:
            self.assertLess(len(fewest(net, 3, depth_by(net, plain_cover(net, 3)))[0]), len(plain_cover(net, 3)))

    def test_against_a_plain_trial(self):
        deep = 0
        for net in few_nets():
            for k in (2, 3, 4):
                least = least_depth(net, k)
                for depth in (least, least + 1, FORTY):
                    cover, paper = self.judge(net, k, depth)
                    deep += paper != ("count",)
        self.assertGreater(deep, 100)

    def test_against_all_covers(self):
        """Of covers of any cuts, least or not, none has fewer tables."""
        nets = [
            (2, ((8, 0, 1), (6, 0, 2), (9, 2, 3)), (4, 3)), (3, ((8, 0, 1), (8, 3, 2), (6, 3, 4)), (5,)),
            (2, ((8, 0, 1), (6, 0, 2), (9, 3, 1)), (4,)), (3, ((8, 0, 1), (6, 3, 2), (6, 3, 4)), (4, 5)),
            (1, ((9, 0, 0), (9, 1, 1), (9, 2, 2)), (3,)),
        ]
        for net in nets:
            for k in (2, 3):
                covers = [(depth_by(net, cover), len(cover)) for cover in all_covers(net, k)]
                least = min(depth for depth, count in covers)
                for depth in (least, least + 1, FORTY):
                    count = min(count for own, count in covers if own <= depth)
                    self.assertEqual(len(fewest(net, k, depth)[0]), count)

    def test_the_paper_counts_as_soon_as_it_can(self):
        for net in few_nets():
            for k in (2, 3, 4):
                cover, paper = fewest(net, k, FORTY)
                outs = {out for out in net[2] if out >= net[0]}
                self.assertEqual(paper == ("count",), len(outs) >= len(cover))

    def test_somewhat_beyond_the_bounds(self):
        for k in (1, 5):
            for net in (tree(4), chain(8, 6), doubled_chain(1, 6)):
                cover, paper = fewest(net, k, 99)
                self.assertEqual(shown_count(net, k, 99, paper), len(cover))
        with self.assertRaises(NoDepth) as held:
            fewest((1, (), (0,)), 2, -1)
        self.assertEqual(held.exception.least, 0)


class Refused(unittest.TestCase):
    def test_more_than_six_gates(self):
        for count in (7, 8, 12, 16, 18):
            for net in (chain(8, count), doubled_chain(1, count), ladder(2, count), (2, ladder(2, count)[1], (0,))):
                for k in (2, 3, 4):
                    for depth in (0, 1, 16, FORTY):
                        with self.assertRaises(TooMany) as held:
                            fewest(net, k, depth)
                        self.assertIsInstance(held.exception, CoverError)
        self.assertEqual(len(fewest(chain(8, 6), 2, 6)[0]), 6)

    def test_too_many_goes_ahead(self):
        net = chain(8, 7)
        self.assertEqual(least_depth(net, 2), 7)
        for depth in range(9):
            with self.assertRaises(TooMany):
                fewest(net, 2, depth)

    def test_no_depth_just_where_the_depth_is_less(self):
        refused = 0
        for net in few_nets():
            for k in (2, 3, 4):
                least = least_depth(net, k)
                for depth in range(least):
                    with self.assertRaises(NoDepth) as held:
                        fewest(net, k, depth)
                    self.assertEqual(held.exception.least, least)
                    self.assertIs(type(held.exception.least), int)
                    self.assertNotIsInstance(held.exception, TooMany)
                    refused += 1
                fewest(net, k, least)
        self.assertGreater(refused, 100)

    def test_only_the_outs_depths_count(self):
        gates = chain(8, 6)[1]
        self.assertEqual(fewest((8, gates, (0,)), 2, 0), ((), ("count",)))
        self.assertEqual(fewest((8, gates, (8, 3)), 2, 1), (((8, (0, 7)),), ("count",)))
        for outs, least in (((8,), 1), ((8, 10), 3), ((13, 8), 6), ((9, 9, 0), 2)):
            with self.assertRaises(NoDepth) as held:
                fewest((8, gates, outs), 2, least - 1)
            self.assertEqual(held.exception.least, least)

    def test_the_same_asked_again_and_behind_refusals(self):
        asked = [(net, k, depth) for net in (tree(4), chain(8, 6), ladder(5, 6), chain(8, 7), (1, (), (0,)))
                 for k in (2, 3, 4) for depth in (0, 2, 6, FORTY)]
        first = [self.answer(*question) for question in asked]
        again = [self.answer(*question) for question in asked[::-1]]
        self.assertEqual(first, again[::-1])
        self.assertEqual({type(answer) for answer in first}, {tuple, int, str})

    def answer(self, net, k, depth):
        try:
            return fewest(net, k, depth)
        except TooMany:
            return "too many"
        except NoDepth as held:
            return held.least


if __name__ == "__main__":
    unittest.main()
