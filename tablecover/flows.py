"""Ways to a gate that have only shared wires in common, found as a flow from the inputs to the gate."""

from tablecover.ways import cone, places

# Each wire is two nodes, its inlet and its outlet; every edge of the flow leads to a greater node.
START = -1


def inlet(wire):
    """The node at which ways come into the wire."""
    return 2 * wire


def outlet(wire):
    """The node at which ways leave the wire."""
    return 2 * wire + 1


def link(rooms, low, high, room):
    """Let as many ways go from the low node to the high one, and none be taken back yet."""
    rooms[low][high] = room
    rooms[high][low] = 0


def make_rooms(net, gate, shared, count):
    """For each node of the gate's cone how many ways can still go to each node beside it."""
    wires = cone(net, gate)
    rooms = {START: {}}
    for wire in wires:
        rooms[inlet(wire)] = {}
        rooms[outlet(wire)] = {}
    for wire in wires:
        link(rooms, inlet(wire), outlet(wire), count if wire in shared else 1)
        if wire < net[0]:
            link(rooms, START, inlet(wire), count)
        else:
            for place in places(net, wire):
                link(rooms, outlet(place), inlet(wire), count)
    return rooms


def nodes_ahead(rooms, goal):
    """For each node that is met from the start on, along edges with room, up to the goal, the node ahead of it."""
    ahead = {START: START}
    queue = [START]
    at = 0
    while goal not in ahead:
        node = queue[at]
        for step in rooms[node]:
            if rooms[node][step] > 0 and step not in ahead:
                ahead[step] = node
                queue.append(step)
        at += 1
    return ahead


def push_one(rooms, goal):
    """Let one more way go from the start to the goal."""
    ahead = nodes_ahead(rooms, goal)
    node = goal
    while node != START:
        low = ahead[node]
        rooms[low][node] -= 1
        rooms[node][low] += 1
        node = low


def draw_way(rooms, goal):
    """Take one of the ways that go to the goal out of the flow, and tell its wires."""
    way = []
    node = START
    while node != goal:
        steps = [step for step in rooms[node] if step > node and rooms[step][node] > 0]
        step = steps[0]
        rooms[step][node] -= 1
        if step == inlet(step // 2):
            way.append(step // 2)
        node = step
    return tuple(way)


def apart_ways(net, gate, shared, count):
    """So many ways to the gate, any two with only shared wires in common.

    There must be so many, that is: fewer wires than count, none of them shared, never tell the gate.
    """
    rooms = make_rooms(net, gate, shared, count)
    goal = outlet(gate)
    for turn in range(count):
        push_one(rooms, goal)
    ways = []
    for turn in range(count):
        ways.append(draw_way(rooms, goal))
    return tuple(ways)
