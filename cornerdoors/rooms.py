"""Nets by the rule, and the rooms that three hands take at neighbouring places."""

from cornerdoors.errors import BadNet, NotRuled
from cornerdoors.nets import Net, corners, mark, triangles
from cornerdoors.walks import ends, partner


def ruled(net):
    size = net.size
    if mark(net, 0, 0) != 0 or mark(net, size, 0) != 1 or mark(net, 0, size) != 2:
        return False
    for step in range(size + 1):
        if mark(net, step, 0) == 2 or mark(net, 0, step) == 1 or mark(net, step, size - step) == 0:
            return False
    return True


def check_ruled(net):
    if not ruled(net):
        raise NotRuled("the net is not ruled")


def reached(net):
    check_ruled(net)
    floor = triangles(net)
    # A ruled net has such a door, so the loop never runs out.
    for end in ends(net, floor):
        if end[0] == "door":
            other = partner(net, floor, end)
            if other[0] == "whole":
                return (other[1], (end[1], end[2]))


def hand_of(x, y):
    return (x - y) % 3


def check_nets(nets):
    for net in nets:
        if net.size != nets[0].size:
            raise BadNet("the nets have not one size")
    for net in nets:
        check_ruled(net)


def joint(nets):
    check_nets(nets)
    size = nets[0].size
    rows = []
    for y in range(size + 1):
        rows.append([mark(nets[hand_of(x, y)], x, y) for x in range(size - y + 1)])
    return Net(rows)


def settled(nets):
    shared = joint(nets)
    whole = reached(shared)[0]
    by_hand = {}
    for x, y in corners(shared, whole):
        by_hand[hand_of(x, y)] = ((x, y), mark(shared, x, y))
    return [by_hand[hand] for hand in range(3)]
