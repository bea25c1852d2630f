"""Keepers: nets that are changed place by place, with their cuts, depths and plain covers."""

from tablecover.changes import changed
from tablecover.cuts import all_cuts
from tablecover.depths import depths_by
from tablecover.plain import plain_by


def other_gates(net, ahead, behind):
    """The gates, rising, whose cuts behind a change are other ones than ahead; a gate that came is one."""
    return tuple(gate for gate in range(net[0], len(behind)) if gate >= len(ahead) or behind[gate] != ahead[gate])


class Keeper:
    """A net, with its cuts for k."""

    def __init__(self, net, k):
        self.k = k
        self.held = net
        self.kept = all_cuts(net, k)

    def net(self):
        """The net as it is now."""
        return self.held

    def cuts(self, gate):
        """The cuts of the gate."""
        return self.kept[gate]

    def depths(self):
        """The depths of all wires."""
        return depths_by(self.held, self.kept)

    def cover(self):
        """The plain cover."""
        return plain_by(self.held, self.kept)

    def do(self, change):
        """Do the change; tells the gates, rising, that have other cuts than ahead of it."""
        # What is refused is refused here, before anything is changed.
        told = changed(self.held, change)
        ahead = self.kept
        self.held = told
        self.kept = all_cuts(told, self.k)
        return other_gates(told, ahead, self.kept)
