"""Nets written as texts, and read from them."""

from tablecover.errors import NoText
from tablecover.nets import MOST_GATES, are_outs, is_gate, is_many

FIGURES = "0123456789"


def show_net(net):
    """The text of the net."""
    many, gates, outs = net
    rows = [f"inputs {many}"]
    for kind, one, other in gates:
        rows.append(f"gate {kind} {one} {other}")
    rows.append(" ".join(["outs"] + [str(out) for out in outs]))
    return "\n".join(rows)


def number_in(word):
    """The number that is written in the word, or None."""
    if word == "" or any(sign not in FIGURES for sign in word):
        return None
    if word[0] == "0" and word != "0":
        return None
    number = 0
    # Figure by figure, as Python's own reading fails at thousands of figures.
    for sign in word:
        number = 10 * number + FIGURES.index(sign)
    return number


def numbers_in(words):
    """The numbers that are written in the words, or None where some word is no number."""
    numbers = [number_in(word) for word in words]
    if None in numbers:
        return None
    return tuple(numbers)


def numbers_behind(head, row):
    """The numbers behind the first word of the row, or None where it has another first word or no numbers."""
    words = row.split(" ")
    if words[0] != head:
        return None
    return numbers_in(words[1:])


def inputs_in(row):
    """How many inputs the row tells, or None."""
    numbers = numbers_behind("inputs", row)
    if numbers is None or len(numbers) != 1 or not is_many(numbers[0]):
        return None
    return numbers[0]


def gates_in(rows, many):
    """The gates that the rows tell, up to the first row that tells none."""
    gates = []
    for row in rows[:MOST_GATES]:
        gate = numbers_behind("gate", row)
        if not is_gate(gate, many + len(gates)):
            break
        gates.append(gate)
    return tuple(gates)


def outs_in(row, count):
    """The outs that the row tells of so many wires, or None."""
    outs = numbers_behind("outs", row)
    return outs if are_outs(outs, count) else None


def read_net(text):
    """The net that is written in the text; NoText where the text, anything, is not just what is written of a net."""
    if not isinstance(text, str):
        raise NoText(0)
    rows = text.split("\n")
    many = inputs_in(rows[0])
    if many is None:
        raise NoText(0)
    gates = gates_in(rows[1:], many)
    at = 1 + len(gates)
    outs = outs_in(rows[at], many + len(gates)) if at < len(rows) else None
    if outs is None:
        raise NoText(at)
    if at + 1 < len(rows):
        raise NoText(at + 1)
    return (many, gates, outs)
