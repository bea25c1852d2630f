"""Cuts of gates: the few wires that part a gate from the inputs."""

from tablecover.masks import fits, has_part, wires_of
from tablecover.nets import is_below, wires_in
from tablecover.ways import cone, is_step, places, reached


def tells(net, wire, wires):
    """Whether each way to the wire has one of the wires."""
    return not any(start < net[0] for start in reached(net, wire, wires))


def rises(numbers):
    """Whether each of the numbers is greater than the one ahead."""
    return all(low < high for low, high in zip(numbers, numbers[1:]))


def is_rising(thing, bound):
    """Whether the thing is a rising tuple of one or more wires below the bound."""
    if not isinstance(thing, tuple) or len(thing) == 0:
        return False
    return all(is_below(wire, bound) for wire in thing) and rises(thing)


def is_cut(net, gate, thing):
    """Whether the thing, anything, is a cut of the gate."""
    return is_rising(thing, gate) and tells(net, gate, thing)


def is_least_cut(net, gate, thing):
    """Whether the thing, anything, is a cut of the gate and is none without any one of its wires."""
    if not is_cut(net, gate, thing):
        return False
    return not any(tells(net, gate, thing[:at] + thing[at + 1:]) for at in range(len(thing)))


def gate_masks(firsts, seconds, k):
    """The masks of a gate's cuts for k; firsts and seconds are those by which its one and its other are told."""
    found = {}
    for first in firsts:
        for second in seconds:
            if fits(first | second, k):
                found[first | second] = True
    # Each least cut for k is found, so what is no least cut has one of the others as a part.
    return [mask for mask in found if not has_part(found, mask)]


def cut_masks(net, wires, k):
    """For each of the wires, rising and with all their places, the masks of its cuts for k, by the wires."""
    masks = {}
    for wire in wires:
        masks[wire] = []
        if wire >= net[0]:
            one, other = places(net, wire)
            masks[wire] = gate_masks(masks[one] + [1 << one], masks[other] + [1 << other], k)
    return masks


def told_cuts(masks):
    """The cuts that have these masks, rising."""
    return tuple(sorted([wires_of(mask) for mask in masks]))


def cuts_of(net, gate, k):
    """All least cuts of the gate of at most k wires, rising."""
    return told_cuts(cut_masks(net, cone(net, gate), k)[gate])


def all_cuts(net, k):
    """The cuts for k of each wire, in order; an input has none."""
    wires = list(range(wires_in(net)))
    masks = cut_masks(net, wires, k)
    for gate in wires[net[0]:]:
        if len(masks[gate]) == 0:
            # For a k below 2, which is beyond the bounds, there may be no cut: then the places stand for it.
            one, other = places(net, gate)
            masks[gate] = [(1 << one) | (1 << other)]
    return tuple(told_cuts(masks[wire]) for wire in wires)


def way_past(net, gate, wires):
    """A way to the gate that has none of the wires, or None where they are a cut."""
    free = reached(net, gate, wires)
    if len(free) == 0 or free[0] >= net[0]:
        return None
    way = [free[0]]
    # Each free wire below the gate is a place of a later free one, so the way never ends below the gate.
    for step in free:
        if is_step(net, way[-1], step):
            way.append(step)
    return tuple(way)


def inside(net, gate, cut):
    """The gates, rising, that stand between the cut and the gate, the gate itself among them."""
    return tuple(wire for wire in reached(net, gate, cut) if wire >= net[0])
