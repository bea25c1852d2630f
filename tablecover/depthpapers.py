"""Papers of depths: that no cover has a gate less deep."""

from tablecover.depths import depths
from tablecover.flows import apart_ways
from tablecover.nets import wires_in
from tablecover.ways import cone


def gate_paper(net, gate, k, labels):
    """The gate's label and the ways that show it."""
    label = labels[gate]
    if label == 1:
        return (label, ())
    # No k wires below the shared ones tell the gate, or it would be less deep: so there are k + 1 such ways.
    shared = [wire for wire in cone(net, gate) if labels[wire] >= label - 1]
    return (label, apart_ways(net, gate, shared, k + 1))


def depth_paper(net, k):
    """The paper of depths for k whose labels are the depths."""
    labels = depths(net, k)
    return tuple(gate_paper(net, gate, k, labels) for gate in range(net[0], wires_in(net)))
