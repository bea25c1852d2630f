"""What is promised over the whole program [3], sentence by sentence, of drawn nets; and what [2] says of all of it."""

import copy
import inspect
import itertools
import random
import unittest

from helper import (
    FORTY, all_rows, all_ways, chain, drawn_change, drawn_likeness, gates_of, is_number, laid_cases, mutations,
    plain_changed, plain_cuts, plain_depth, plain_depths, plain_fewest, plain_first_unlike, plain_outs_at, random_cover,
    random_net, rebuilt, tells_by_ways, woven_net,
)
from tablecover import errors
from tablecover.alike import first_unlike
from tablecover.changes import changed
from tablecover.contents import content, idle, without
from tablecover.countchecks import shown_count
from tablecover.covers import cover_holds, depth_by, doubled, leaned
from tablecover.cuts import cuts_of, inside, is_cut, is_least_cut, tells, way_past
from tablecover.depthchecks import depth_paper_holds
from tablecover.depthpapers import depth_paper
from tablecover.depths import depths
from tablecover.desk import Desk
from tablecover.easing import eased
from tablecover.fewest import fewest
from tablecover.keeping import Keeper
from tablecover.layouts import is_layout, laid, layout_outs, trimmed
from tablecover.likeness import likeness
from tablecover.likenesschecks import likeness_holds
from tablecover.nets import is_net, outs_at, row_of, wires_in, worths
from tablecover.plain import choice, plain_cover
from tablecover.texts import read_net, show_net
from tablecover.ways import cone, is_way


def drawn_nets():
    """Nets with k, of up to sixteen gates, and of up to twelve for 4."""
    for seed in range(36):
        k = 2 + seed % 3
        count = 1 + seed * 5 % (12 if k == 4 else 16)
        yield seed, random_net(5000 + seed, 1 + seed % 8, count), k
        yield seed, woven_net(5000 + seed, 1 + seed % 8, count), k


def few_nets():
    """Nets with k, of at most six gates."""
    for seed in range(48):
        yield seed, woven_net(6000 + seed, 2 + seed % 6, 2 + seed % 5), 2 + seed % 3


def drawn_covers(seed, net, k):
    """Covers by another hand: least cuts or others, needed tables alone or more."""
    for turn in range(4):
        yield random_cover(10 * seed + turn, net, k, least=turn == 0, needless=turn)


def depths_in(net, cover):
    told = {wire: 0 for wire in range(net[0])}
    for gate, cut in cover:
        told[gate] = 1 + max(told[wire] for wire in cut)
    return told


class TheWhole(unittest.TestCase):
    def test_just_the_least_cuts(self):
        for seed, net, k in drawn_nets():
            for gate in gates_of(net):
                self.assertEqual(cuts_of(net, gate, k), plain_cuts(net, gate, k))

    def test_a_way_past_what_is_no_cut(self):
        chance = random.Random(3)
        found = [0, 0]
        for seed, net, k in drawn_nets():
            for gate in gates_of(net):
                ways = all_ways(net, gate)
                for turn in range(4):
                    wires = tuple(sorted(chance.sample(range(gate), chance.randrange(min(gate, 9) + 1))))
                    told = way_past(net, gate, wires)
                    found[told is None] += 1
                    self.assertEqual(told is None, tells_by_ways(ways, wires))
                    if told is not None:
                        self.assertIn(told, ways)
                        self.assertFalse(set(told) & set(wires))
        self.assertGreater(min(found), 100)

    def test_some_cover_has_each_depth_and_none_a_lesser_one(self):
        for seed, net, k in drawn_nets():
            told = depths(net, k)
            for gate in gates_of(net):
                own = (net[0], net[1], (gate,))
                self.assertEqual(depth_by(own, plain_cover(own, k)), told[gate])
            for cover in drawn_covers(seed, net, k):
                for gate, depth in depths_in(net, cover).items():
                    self.assertGreaterEqual(depth, told[gate])

    def test_no_paper_tells_a_greater_depth(self):
        chance = random.Random(4)
        let_by = 0
        for seed, net, k in drawn_nets():
            told = depths(net, k)
            paper = depth_paper(net, k)
            self.assertIs(depth_paper_holds(net, k, paper), True)
            self.assertEqual(tuple(label for label, ways in paper), told[net[0]:])
            things = [papers_with(chance, net, k, paper) for turn in range(12)]
            for thing in things + list(itertools.islice(mutations(paper), 0, None, 17)):
                if depth_paper_holds(net, k, thing):
                    let_by += 1
                    self.assertTrue(all(label <= depth for (label, ways), depth in zip(thing, told[net[0]:])))
        self.assertGreater(let_by, 50)

    def test_layouts_tell_what_the_net_tells(self):
        let_by = 0
        for seed, net, k in drawn_nets():
            covers = [plain_cover(net, k)] + list(drawn_covers(seed, net, k))
            for cover in covers[:2]:
                covers += itertools.islice(mutations(cover), seed % 5, None, 23)
            rows = {row: plain_outs_at(net, row) for row in all_rows(net)[:: 1 + net[0] // 5]}
            for cover in covers:
                if cover_holds(net, k, cover):
                    let_by += 1
                    layout = laid(net, cover)
                    short = trimmed(layout)
                    self.assertTrue(is_layout(layout) and is_layout(short))
                    for row, told in rows.items():
                        self.assertEqual(layout_outs(layout, row), told)
                        self.assertEqual(layout_outs(short, row), told)
        self.assertGreater(let_by, 400)

    def test_the_fewest_tables(self):
        for seed, net, k in few_nets():
            least = max(plain_depths(net, k)[out] for out in net[2])
            for depth in (least, least + 1, FORTY):
                cover, paper = fewest(net, k, depth)
                self.assertIs(cover_holds(net, k, cover), True)
                self.assertLessEqual(plain_depth(net, cover), depth)
                self.assertEqual(len(cover), plain_fewest(net, k, depth))
                self.assertEqual(shown_count(net, k, depth, paper), len(cover))
                for thing in itertools.chain(drawn_papers(seed, net, k, depth), mutations(paper)):
                    shown = shown_count(net, k, depth, thing)
                    self.assertTrue(shown is None or is_number(shown) and shown <= len(cover), (net, k, depth, thing))

    def test_no_paper_shows_more_than_any_cover_has(self):
        shown = 0
        for seed, net, k in drawn_nets():
            covers = [plain_cover(net, k)] + list(drawn_covers(seed, net, k))
            for cover in covers:
                depth = depth_by(net, cover)
                for count in (2, 3):
                    paper = laid_cases(net, k, depth, lambda needs, left: len(needs) >= count)
                    told = shown_count(net, k, depth, paper)
                    self.assertLessEqual(told, len(cover))
                    self.assertLessEqual(told, len(eased(net, k, depth, leaned(net, cover))[0]))
                    shown += told > 1
        self.assertGreater(shown, 50)

    def test_easing_never_has_more(self):
        fewer = 0
        for seed, net, k in drawn_nets():
            for cover in [plain_cover(net, k)] + [leaned(net, one) for one in drawn_covers(seed, net, k)]:
                for depth in (depth_by(net, cover), FORTY):
                    told, turns = eased(net, k, depth, cover)
                    self.assertIs(cover_holds(net, k, told), True)
                    self.assertLessEqual(len(told) + len(turns), len(cover))
                    self.assertLessEqual(depth_by(net, told), depth)
                    fewer += len(told) < len(cover)
        self.assertGreater(fewer, 100)

    def test_a_row_or_a_likeness_never_both(self):
        seen = [0, 0]
        for seed, net, k in drawn_nets():
            other = rebuilt(seed, net)
            hand = drawn_likeness(seed, net, other, 12)
            self.assertIs(likeness_holds(net, other, hand), True)
            chance = random.Random(seed)
            for turn in range(6):
                at = chance.randrange(len(other[1]))
                gate = (chance.randrange(16), *other[1][at][1:]) if turn else other[1][at]
                near = (other[0], other[1][:at] + (gate,) + other[1][at + 1:], other[2])
                number, steps = first_unlike(net, near), likeness(net, near)
                self.assertEqual(number, plain_first_unlike(net, near))
                self.assertEqual(number is None, steps is not None)
                seen[number is None] += 1
                if number is None:
                    self.assertIs(likeness_holds(net, near, steps), True)
                else:
                    row = row_of(net, number)
                    self.assertNotEqual(outs_at(net, row), outs_at(near, row))
                    self.assertIs(likeness_holds(net, near, hand), False)
        self.assertGreater(min(seen), 50)

    def test_kept_while_a_net_is_changed(self):
        others = 0
        for seed, net, k in drawn_nets():
            chance = random.Random(seed)
            keeper = Keeper(net, k)
            for turn in range(8):
                ahead = keeper.net()
                change = drawn_change(chance, ahead)
                behind = plain_changed(ahead, change)
                if behind is None or k == 4 and len(behind[1]) > 12:
                    continue
                old = {gate: keeper.cuts(gate) for gate in gates_of(ahead)}
                told = keeper.do(change)
                self.assertEqual(keeper.net(), behind)
                self.assertEqual(keeper.depths(), depths(behind, k))
                self.assertEqual(keeper.cover(), plain_cover(behind, k))
                for gate in gates_of(behind):
                    self.assertEqual(keeper.cuts(gate), cuts_of(behind, gate, k))
                    self.assertEqual(gate in told, keeper.cuts(gate) != old.get(gate))
                    if gate in told:
                        others += 1
                        self.assertIn(change[0], ("lead", "more"))
                        self.assertTrue(change[0] == "more" or change[1] in cone(behind, gate))
        self.assertGreater(others, 100)


def papers_with(chance, net, k, paper):
    """The paper with the label of one gate more by one, and ways at will."""
    at = chance.randrange(len(paper))
    label, ways = paper[at]
    many = all_ways(net, net[0] + at)
    drawn = tuple(chance.choice(many) for turn in range(k + 1))
    return paper[:at] + ((label + chance.choice((-1, 0, 1, 1)), chance.choice((drawn, ways))),) + paper[at + 1:]


def drawn_papers(seed, net, k, depth):
    """Papers of tables that count at will."""
    for turn in range(3):
        chance = random.Random(10 * seed + turn)
        yield laid_cases(net, k, depth, lambda needs, left: chance.random() < 0.3)


def is_told(thing):
    """Whether the thing is made as [2] says: texts, whole numbers, truths, None, and tuples of these."""
    if type(thing) is tuple:
        return all(is_told(part) for part in thing)
    if type(thing) is str:
        return all(" " <= sign <= "~" or sign == "\n" for sign in thing)
    return thing is None or type(thing) in (int, bool)


def questions():
    """Each function with what it is asked, right things and wrong ones."""
    one, k = woven_net(7, 4, 6), 3
    other, few = rebuilt(7, one), random_net(8, 3, 4)
    seven = chain(4, 7)
    cover, gate = plain_cover(one, k), one[0] + 5
    cut, layout = cuts_of(one, gate, k)[-1], laid(one, cover)
    held = content(one, gate, cut)
    yield from [(is_net, one), (is_net, [1]), (wires_in, one), (row_of, one, 5), (worths, one, (1, 0, 1, 1))]
    yield from [(outs_at, one, (1, 0, 1, 1)), (show_net, one), (read_net, show_net(one)), (read_net, "inputs 9")]
    yield from [(is_way, one, gate, (0, gate)), (cone, one, gate), (tells, one, gate, cut), (is_cut, one, gate, cut)]
    yield from [(is_least_cut, one, gate, [0]), (cuts_of, one, gate, k), (way_past, one, gate, (0,))]
    yield from [(way_past, one, gate, cut), (inside, one, gate, cut), (depths, one, k), (depth_paper, one, k)]
    yield from [(depth_paper_holds, one, k, depth_paper(one, k)), (depth_paper_holds, one, k, {}), (idle, held)]
    yield from [(content, one, gate, cut), (without, (0, 1, 0, 1), 1), (cover_holds, one, k, cover)]
    yield from [(cover_holds, one, k, [cover]), (leaned, one, cover), (depth_by, one, cover), (doubled, one, cover)]
    yield from [(choice, one, gate, k), (plain_cover, one, k), (is_layout, layout), (is_layout, [layout])]
    yield from [(layout_outs, layout, (1, 0, 1, 1)), (laid, one, cover), (trimmed, layout), (fewest, few, k, 9)]
    yield from [(fewest, seven, k, 9), (fewest, chain(4, 6), 2, 1), (shown_count, one, k, 9, ("count",))]
    yield from [(shown_count, one, k, 9, ["count"]), (eased, one, k, FORTY, cover), (first_unlike, one, other)]
    yield from [(first_unlike, one, few), (first_unlike, one, (4, one[1], (0,) * len(one[2]))), (likeness, one, other)]
    yield from [(likeness, one, few), (likeness_holds, one, other, likeness(one, other))]
    yield from [(likeness_holds, one, few, ()), (likeness_holds, one, one, []), (changed, one, ("kind", gate, 3))]
    yield from [(changed, one, ["less"]), (changed, one, ("outs", [0])), (changed, one, ("outs", (0,)))]
    for change in (("kind", gate, 3), ("lead", gate, 0, 1), ("lead", 0, 0, 0), ["less"], None):
        yield (keeper_tells, one, k, change)
    for text in ("show", "gate 8 0 1", "cuts 9", "row 0110", "fewest 3", "fewest 0", "way 4 0", "nothing", ["show"]):
        yield (desk_tells, 4, 2, text)


def keeper_tells(net, k, change):
    keeper = Keeper(net, k)
    told = keeper.do(change)
    return (told, keeper.net(), keeper.cuts(net[0]), keeper.depths(), keeper.cover())


def desk_tells(many, k, text):
    desk = Desk(many, k)
    desk.say("gate 6 0 1")
    return (desk.say(text), desk.net())


def answer(question):
    """What is told, or the refusal, as the name of its class and its fields."""
    ask, *parts = question
    try:
        return ask(*parts)
    except errors.CoverError as held:
        return type(held).__name__, tuple(sorted(vars(held).items()))


class AllOfIt(unittest.TestCase):
    def test_the_same_in_any_order(self):
        asked = list(questions())
        first = [answer(question) for question in asked]
        self.assertEqual([answer(question) for question in asked[::-1]], first[::-1])
        for seed in range(5):
            order = list(range(len(asked)))
            random.Random(seed).shuffle(order)
            for at in order:
                self.assertEqual(repr(answer(asked[at])), repr(first[at]))
        refusals = {told[0] for told in first if type(told) is tuple and told and type(told[0]) is str}
        self.assertLessEqual({"NoText", "NoDepth", "TooMany", "NoMatch", "NoChange", "NoRow"}, refusals)

    def test_what_is_told(self):
        for question in questions():
            self.assertTrue(is_told(answer(question)), question)

    def test_nothing_that_is_handed_in_is_changed(self):
        for question in questions():
            kept = copy.deepcopy(question[1:])
            answer(question)
            self.assertEqual(repr(question[1:]), repr(kept))

    def test_no_refusal_stands_under_another_one(self):
        kinds = [kind for name, kind in inspect.getmembers(errors, inspect.isclass)]
        self.assertEqual({kind.__name__ for kind in kinds},
                         {"CoverError", "NoText", "NoDepth", "TooMany", "NoMatch", "NoChange", "NoRow"})
        for kind, other in itertools.permutations(kinds, 2):
            self.assertEqual(issubclass(kind, other), other is errors.CoverError)


if __name__ == "__main__":
    unittest.main()
