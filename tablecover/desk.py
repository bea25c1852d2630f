"""A desk: a net that is changed and asked about by rows of text."""

from tablecover.contents import content
from tablecover.cuts import is_cut, is_rising, way_past
from tablecover.errors import NoChange, NoDepth, NoRow, TooMany
from tablecover.fewest import fewest
from tablecover.keeping import Keeper
from tablecover.nets import has_gate, is_below, outs_at, wires_in
from tablecover.texts import number_in, numbers_in, show_net

MOST_WIRES_OF_CONTENT = 8
WORTHS = "01"


def in_figures(numbers):
    """The numbers, each as a text."""
    return [str(number) for number in numbers]


def cut_text(cut):
    """The text of the cut."""
    return "+".join(in_figures(cut))


def wires_written(word):
    """The wires that are written in the word as a cut is, or None."""
    return numbers_in(word.split("+"))


def number_alone(words):
    """The number that is the only one of the words, or None."""
    return number_in(words[0]) if len(words) == 1 else None


def show_answer(keeper, words):
    """Behind `show`: the net's text."""
    return show_net(keeper.net()) if len(words) == 0 else None


def cuts_answer(keeper, words):
    """Behind `cuts`: the cuts of a gate."""
    gate = number_alone(words)
    if not has_gate(keeper.net(), gate):
        return None
    return " ".join([cut_text(cut) for cut in keeper.cuts(gate)])


def depth_answer(keeper, words):
    """Behind `depth`: the depth of a wire."""
    wire = number_alone(words)
    if not is_below(wire, wires_in(keeper.net())):
        return None
    return str(keeper.depths()[wire])


def cover_answer(keeper, words):
    """Behind `cover`: the plain cover."""
    if len(words) != 0:
        return None
    tables = [f"{gate}:{cut_text(cut)}" for gate, cut in keeper.cover()]
    return "none" if len(tables) == 0 else " ".join(tables)


def fewest_answer(keeper, words):
    """Behind `fewest`: how many tables there are at least within a depth."""
    depth = number_alone(words)
    if depth is None:
        return None
    try:
        told = fewest(keeper.net(), keeper.k, depth)
    except TooMany:
        return "too many"
    except NoDepth:
        return "no depth"
    return str(len(told[0]))


def content_answer(keeper, words):
    """Behind `content`: the content of a gate by a cut of it."""
    if len(words) != 2:
        return None
    gate, cut = number_in(words[0]), wires_written(words[1])
    if not has_gate(keeper.net(), gate) or not is_cut(keeper.net(), gate, cut) or len(cut) > MOST_WIRES_OF_CONTENT:
        return None
    return "".join(in_figures(content(keeper.net(), gate, cut)))


def row_answer(keeper, words):
    """Behind `row`: the outs' worths at a row of the inputs."""
    net = keeper.net()
    if len(words) != 1 or len(words[0]) != net[0] or any(sign not in WORTHS for sign in words[0]):
        return None
    row = tuple(int(sign) for sign in words[0])
    return "".join(in_figures(outs_at(net, row)))


def way_answer(keeper, words):
    """Behind `way`: a way to a gate past some wires."""
    if len(words) != 2:
        return None
    gate, wires = number_in(words[0]), wires_written(words[1])
    if not has_gate(keeper.net(), gate) or not is_rising(wires, gate):
        return None
    way = way_past(keeper.net(), gate, wires)
    return "none" if way is None else " ".join(in_figures(way))


# Each takes the keeper and the words behind the first one, and tells None where they make no such row.
QUESTIONS = {
    "show": show_answer,
    "cuts": cuts_answer,
    "depth": depth_answer,
    "cover": cover_answer,
    "fewest": fewest_answer,
    "content": content_answer,
    "row": row_answer,
    "way": way_answer,
}


def change_written(head, words):
    """The change that is written by the first word and those behind it, or None."""
    numbers = numbers_in(words)
    if numbers is None:
        return None
    if head == "gate":
        return ("more",) + numbers
    if head == "outs":
        return ("outs", numbers)
    return (head,) + numbers if head in ("kind", "lead", "less") else None


def change_answer(keeper, head, words):
    """Do the change; tells the gates that have other cuts, or None where there is no such change."""
    try:
        gates = keeper.do(change_written(head, words))
    except NoChange:
        return None
    return " ".join(["ok"] + in_figures(gates))


class Desk:
    """A keeper that is spoken to; at first of a net without gates, whose one out is input 0."""

    def __init__(self, many, k):
        self.keeper = Keeper((many, (), (0,)), k)

    def say(self, text):
        """The answer to the row, anything; NoRow where it is no such row."""
        if not isinstance(text, str):
            raise NoRow("no text")
        head, *words = text.split(" ")
        if head in QUESTIONS:
            question = QUESTIONS[head]
            told = question(self.keeper, words)
        else:
            told = change_answer(self.keeper, head, words)
        if told is None:
            raise NoRow("no such row")
        return told

    def net(self):
        """The net as it is now."""
        return self.keeper.net()
