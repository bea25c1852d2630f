"""Papers of depths as anyone may have written them, and their checker [11], and what [2] says of it."""

import itertools
import unittest

from helper import (
    FORTY, all_ways, chain, changed_things, crossed, doubled_chain, gates_of, is_number, is_tuple, junk, ladder,
    mutations, nested, nets_at_bounds, plain_depths, random_net, small_nets, tree,
)
from tablecover.depthchecks import depth_paper_holds
from tablecover.depthpapers import depth_paper
from tablecover.depths import depths

# Wires 0 to 3; 4 takes 0 and 1; 5 takes 4 and 2; 6 takes 5 and 3: for 2 they are 1, 2 and 3 deep.
NET = (4, ((8, 0, 1), (8, 4, 2), (8, 5, 3)), (6,))
FIVE = (2, ((0, 4, 5), (1, 4, 5), (2, 5)))
SIX = (3, ((0, 4, 5, 6), (2, 5, 6), (3, 6)))
PAPER = ((1, ()), FIVE, SIX)


def plain_holds(net, k, thing):
    """Whether the thing is a paper, by the words of [11]."""
    if not is_tuple(thing, len(net[1])) or not all(is_tuple(entry, 2) for entry in thing):
        return False
    if not all(is_number(label) and label >= 1 and type(ways) is tuple for label, ways in thing):
        return False
    labels = [0] * net[0] + [label for label, ways in thing]
    return all(plain_entry_holds(net, k, labels, gate, ways) for gate, (label, ways) in zip(gates_of(net), thing))


def plain_entry_holds(net, k, labels, gate, ways):
    if labels[gate] == 1:
        return ways == ()
    right = {repr(way): way for way in all_ways(net, gate)}
    if len(ways) != k + 1 or not all(repr(way) in right for way in ways):
        return False
    return all(fit(one, other, labels, gate) for one, other in itertools.combinations(ways, 2))


def fit(one, other, labels, gate):
    return all(labels[wire] >= labels[gate] - 1 for wire in set(one) & set(other))


def found_ways(choices, count, labels, gate, begun=()):
    """So many of the choices, tried in their order, any two of which fit, or None."""
    if len(begun) == count:
        return begun
    for at, way in enumerate(choices):
        if all(fit(way, other, labels, gate) for other in begun):
            found = found_ways(choices[at + 1:], count, labels, gate, begun + (way,))
            if found is not None:
                return found
    return None


def other_paper(net, k, most, turned):
    """A paper whose labels are as great as can be, but no greater than the most, with ways by a plain trial."""
    labels = [0] * net[0]
    paper = []
    for gate in gates_of(net):
        choices = all_ways(net, gate)[::-1 if turned else 1]
        for label in range(most[gate], 0, -1):
            ways = () if label == 1 else found_ways(choices, k + 1, labels + [label], gate)
            if ways is not None:
                labels.append(label)
                paper.append((label, ways))
                break
    return tuple(paper)


def with_entry(paper, at, entry):
    return paper[:at] + (entry,) + paper[at + 1:]


class Holds(unittest.TestCase):
    def holds(self, net, k, paper):
        self.assertIs(depth_paper_holds(net, k, paper), True, (net, k, paper))

    def test_the_told_paper(self):
        for net in small_nets():
            for k in (2, 3, 4):
                self.holds(net, k, depth_paper(net, k))
        for k, count in ((2, 16), (3, 16), (4, 12)):
            for net in nets_at_bounds(count):
                self.holds(net, k, depth_paper(net, k))

    def test_labels_one_without_ways(self):
        for net in itertools.chain(small_nets(), nets_at_bounds(12)):
            for k in (2, 3, 4):
                self.holds(net, k, ((1, ()),) * len(net[1]))

    def test_no_gate(self):
        for k in (2, 3, 4):
            self.holds((3, (), (0,)), k, ())

    def test_labels_up_to_a_bound(self):
        for net in (chain(8, 12), ladder(8, 12), crossed(12), tree(8), NET):
            for k in (2, 3, 4):
                paper = depth_paper(net, k)
                for most in range(1, 6):
                    less = tuple((min(label, most), ways if most > 1 else ()) for label, ways in paper)
                    self.holds(net, k, less)

    def test_papers_by_another_hand(self):
        less = others = 0
        for net in (chain(8, 7), ladder(6, 7), crossed(6), tree(8), NET, random_net(5, 7, 9), random_net(8, 8, 10)):
            for k in (2, 3, 4):
                told = plain_depths(net, k)
                for lowered in (*gates_of(net), None):
                    most = [max(1, label - 1) if wire == lowered else label for wire, label in enumerate(told)]
                    for turned in (False, True):
                        paper = other_paper(net, k, most, turned)
                        self.holds(net, k, paper)
                        less += sum(label for label, ways in paper) < sum(told)
                        others += paper != depth_paper(net, k)
        self.assertGreater(less, 100)
        self.assertGreater(others, 200)

    def test_ways_in_any_order(self):
        for ways in itertools.permutations(SIX[1]):
            self.holds(NET, 2, with_entry(PAPER, 2, (3, ways)))

    def test_wires_in_common(self):
        # Of the label 2 any wires of the label 1 may be in common, but no inputs.
        self.holds(NET, 2, with_entry(PAPER, 2, (2, ((0, 4, 5, 6), (1, 4, 5, 6), (3, 6)))))
        self.holds(NET, 2, with_entry(PAPER, 2, (2, ((0, 4, 5, 6), (1, 4, 5, 6), (2, 5, 6)))))
        self.holds(NET, 2, with_entry(PAPER, 2, (3, ((1, 4, 5, 6), (2, 5, 6), (3, 6)))))

    def test_somewhat_beyond_the_bounds(self):
        for k in (1, 5):
            for net in (chain(8, 18), ladder(8, 16)):
                self.holds(net, k, depth_paper(net, k))


class HoldsNot(unittest.TestCase):
    def refused(self, thing, net=NET, k=2):
        self.assertIs(depth_paper_holds(net, k, thing), False, (net, k, repr(thing)[:120]))

    def test_labels_that_are_none(self):
        for label in (0, -1, -FORTY, True, False, None, "1", (1,), [1], {}, ()):
            self.refused(((label, ()), FIVE, SIX))
        for label in (0, -1, 1, True, False, None, "2", (2,), [2], 3, 4, FORTY):
            self.refused(with_entry(PAPER, 1, (label, FIVE[1])))
        for label in (0, -2, 1, True, None, "3", (3,), [3], 4, 5, FORTY):
            self.refused(with_entry(PAPER, 2, (label, SIX[1])))
        one = (1, ((9, 0, 0),), (1,))
        self.assertIs(depth_paper_holds(one, 2, ((1, ()),)), True)
        self.refused(((True, ()),), one)

    def test_ways_where_the_label_is_one(self):
        for ways in (((0, 4),), ((0, 4), (1, 4)), ((0, 4), (1, 4), (0, 4)), ((),), (None,), (0,), [], "", None, {}, 0):
            self.refused(with_entry(PAPER, 0, (1, ways)))
        self.refused(with_entry(PAPER, 1, (1, FIVE[1])))

    def test_no_ways_where_the_label_is_greater(self):
        for label in (2, 3, FORTY):
            for at in range(3):
                self.refused(with_entry(PAPER, at, (label, ())))

    def test_one_way_too_few_or_too_many(self):
        for k in (2, 3, 4):
            net = chain(8, 7)
            paper = depth_paper(net, k)
            deep = [at for at, (label, ways) in enumerate(paper) if label > 1]
            self.assertGreater(len(deep), 3)
            for at in deep:
                label, ways = paper[at]
                self.refused(with_entry(paper, at, (label, ways[1:])), net, k)
                self.refused(with_entry(paper, at, (label, ways[:-1])), net, k)
                self.refused(with_entry(paper, at, (label, ways + ways[:1])), net, k)
                for way in all_ways(net, net[0] + at):
                    self.refused(with_entry(paper, at, (label, ways + (way,))), net, k)

    def test_another_k(self):
        self.assertIs(depth_paper_holds(NET, 2, PAPER), True)
        for k in (3, 4):
            self.refused(PAPER, NET, k)
        net = chain(8, 7)
        for k in (2, 3, 4):
            for other in (2, 3, 4):
                self.assertIs(depth_paper_holds(net, k, depth_paper(net, other)), k == other)

    def test_what_is_no_way_to_the_gate(self):
        for way in (
            (3, 5, 6), (0, 5, 6), (2, 4, 5, 6), (0, 4, 5), (1, 4), (0,), (2, 5), (), (6,), (5, 6), (0, 6), (3, 6, 6),
            (3, 3, 6), (-1, 6), (3, -1), (3, 7), (3, FORTY), (3, "6"), [3, 6], (3, [6]), ((3, 6),), "36", None, 3, 6,
            (3, None), (3, 6, None), {3: 6}, nested(lambda thing: (thing,), 27),
        ):
            self.refused(with_entry(PAPER, 2, (3, SIX[1][:2] + (way,))))
            self.refused(with_entry(PAPER, 2, (3, (way,) + SIX[1][:2])))
        one = (2, ((9, 0, 1), (8, 0, 2), (8, 1, 3)), (4,))
        for way in ((True, 4), (1, True), (False, 3, 4)):
            self.refused(((1, ()), (1, ()), (2, (way, (0, 3, 4), (0, 2, 3, 4)))), one)

    def test_wires_in_common_whose_labels_are_too_little(self):
        for ways in (
            ((0, 4, 5, 6), (1, 4, 5, 6), (3, 6)),
            ((0, 4, 5, 6), (1, 4, 5, 6), (2, 5, 6)),
            ((0, 4, 5, 6), (0, 4, 5, 6), (3, 6)),
            ((2, 5, 6), (2, 5, 6), (3, 6)),
            ((3, 6), (2, 5, 6), (3, 6)),
            ((3, 6), (3, 6), (3, 6)),
        ):
            self.refused(with_entry(PAPER, 2, (3, ways)))
        # The label of wire 5 is the paper's own: where it is 1, wire 6 is shown no deeper than 2.
        self.refused(((1, ()), (1, ()), SIX))
        self.assertIs(depth_paper_holds(NET, 2, ((1, ()), (1, ()), (2, SIX[1]))), True)

    def test_an_input_in_common(self):
        net = (3, ((8, 0, 1), (8, 0, 2), (8, 3, 4)), (5,))
        good = ((1, ()), (1, ()), (2, ((0, 3, 5), (1, 3, 5), (2, 4, 5))))
        self.assertIs(depth_paper_holds(net, 2, good), True)
        for ways in (((0, 3, 5), (0, 4, 5), (1, 3, 5)), ((0, 3, 5), (0, 4, 5), (2, 4, 5)), ((1, 3, 5),) * 3):
            self.refused(with_entry(good, 2, (2, ways)), net)

    def test_the_last_two_ways_are_looked_at_too(self):
        net = chain(8, 7)
        for k in (2, 3, 4):
            paper = depth_paper(net, k)
            label, ways = paper[-1]
            for at in range(k + 1):
                for other in range(k + 1):
                    if at != other:
                        twice = ways[:at] + (ways[other],) + ways[at + 1:]
                        self.refused(with_entry(paper, 6, (label, twice)), net, k)

    def test_lists(self):
        self.refused(list(PAPER))
        self.refused([list(entry) for entry in PAPER])
        for at in range(3):
            label, ways = PAPER[at]
            self.refused(with_entry(PAPER, at, [label, ways]))
            self.refused(with_entry(PAPER, at, (label, list(ways))))
            for number in range(len(ways)):
                self.refused(with_entry(PAPER, at, (label, with_entry(ways, number, list(ways[number])))))

    def test_left_out_twice_exchanged_too_long(self):
        for at in range(3):
            self.refused(PAPER[:at] + PAPER[at + 1:])
            self.refused(PAPER[:at] + PAPER[at:at + 1] + PAPER[at:])
            label, ways = PAPER[at]
            for entry in ((ways, label), (label,), (ways,), (label, ways, ()), (label, ways, ways), ()):
                self.refused(with_entry(PAPER, at, entry))
        for turned in itertools.permutations(PAPER):
            if turned != PAPER:
                self.refused(turned)
        self.refused(())
        self.refused(PAPER + ((1, ()),))
        self.refused(PAPER + ((),))
        self.refused((PAPER,))
        self.refused(((),), (1, (), (0,)))
        self.refused(((1, ()),), (1, (), (0,)))

    def test_the_told_paper_of_another_net(self):
        self.refused(depth_paper(tree(8), 2), chain(8, 7))
        self.refused(depth_paper(chain(8, 7), 2), tree(8))
        self.refused(depth_paper(chain(8, 7), 2), chain(8, 8))

    def test_anything(self):
        for thing in junk():
            self.refused(thing)
            self.refused(thing, (1, (), (0,)))
            self.refused(thing, doubled_chain(1, 1))
            for at in range(3):
                self.refused(with_entry(PAPER, at, thing))
                self.refused(with_entry(PAPER, at, (PAPER[at][0], thing)))
            for at in (1, 2):
                self.refused(with_entry(PAPER, at, (thing, PAPER[at][1])))
                for number in range(3):
                    self.refused(with_entry(PAPER, at, (PAPER[at][0], with_entry(PAPER[at][1], number, thing))))

    def test_thirty_deep(self):
        for wrap in (lambda thing: (thing,), lambda thing: [thing], lambda thing: {0: thing}, lambda thing: (1, thing)):
            for depth in range(31):
                self.refused(nested(wrap, depth))
                self.refused((nested(wrap, min(depth, 29)),) * 3)


class Judged(unittest.TestCase):
    def test_changed_at_one_place(self):
        right = wrong = 0
        for net, k in ((NET, 2), (chain(8, 6), 2), (chain(8, 6), 3), (tree(8), 4), (ladder(6, 6), 2), (crossed(6), 4)):
            for thing in mutations(depth_paper(net, k)):
                expected = plain_holds(net, k, thing)
                self.assertIs(depth_paper_holds(net, k, thing), expected, (net, k, thing))
                right, wrong = right + expected, wrong + (not expected)
        self.assertGreater(right, 20)
        self.assertGreater(wrong, 2000)

    def test_all_labels_and_ways_in_small_nets(self):
        """Of all papers with labels up to one more than the depths those that hold show no greater ones."""
        nets = [NET, tree(4), ladder(3, 3), (3, ((8, 0, 1), (6, 2, 3), (14, 3, 4)), (5,)), chain(4, 3)]
        for net in nets:
            told = depths(net, 2)
            for labels in itertools.product(*(range(1, told[gate] + 2) for gate in gates_of(net))):
                choices = [self.choices(net, gate, label) for gate, label in zip(gates_of(net), labels)]
                for paper in itertools.islice(itertools.product(*choices), 3000):
                    holds = depth_paper_holds(net, 2, paper)
                    self.assertIs(holds, plain_holds(net, 2, paper))
                    if holds:
                        self.assertTrue(all(label <= told[gate] for label, gate in zip(labels, gates_of(net))))

    def choices(self, net, gate, label):
        if label == 1:
            return [(1, ())]
        return [(label, ways) for ways in itertools.combinations(all_ways(net, gate), 3)]

    def test_no_ways_show_more_than_the_depth(self):
        tried = 0
        for net in (chain(8, 6), ladder(5, 6), crossed(5), tree(8), random_net(5, 7, 8), random_net(3, 8, 8)):
            for k in (2, 3, 4):
                paper = depth_paper(net, k)
                for at, gate in enumerate(gates_of(net)):
                    # Greater labels of the other gates would let by more: so they are the depths.
                    greater = paper[at][0] + 1
                    labels = [0] * net[0] + [label for label, ways in with_entry(paper, at, (greater, ()))]
                    self.assertIsNone(found_ways(all_ways(net, gate), k + 1, labels, gate))
                    for ways in itertools.islice(itertools.combinations(all_ways(net, gate), k + 1), 300):
                        thing = with_entry(paper, at, (greater, ways))
                        self.assertIs(depth_paper_holds(net, k, thing), False, (net, k, thing))
                        tried += 1
        self.assertGreater(tried, 1000)


class AskedAgain(unittest.TestCase):
    def test_nothing_is_changed(self):
        for net in (NET, (1, (), (0,))):
            self.assertEqual(changed_things(lambda thing: depth_paper_holds(net, 2, thing), junk()), [])
        lists = [[[label, [list(way) for way in ways]] for label, ways in PAPER], [list(PAPER)], ([1, ()], FIVE, SIX)]
        self.assertEqual(changed_things(lambda thing: depth_paper_holds(NET, 2, thing), lists), [])

    def test_the_same_asked_again(self):
        asked = [(net, k, thing) for net in (NET, chain(8, 6)) for k in (2, 3)
                 for thing in (PAPER, depth_paper(net, k), (), None, [PAPER])]
        first = [depth_paper_holds(*question) for question in asked]
        again = [depth_paper_holds(*question) for question in asked[::-1]]
        self.assertEqual(first, again[::-1])


if __name__ == "__main__":
    unittest.main()
