"""Walks over a floor from door to door, and the ends that they lead to."""

from cornerdoors.errors import NoEnd
from cornerdoors.floors import across, check_floor, turns_of_sides
from cornerdoors.nets import sense


def is_whole(net, triangle):
    return sense(net, triangle) != 0


def doors(net, triangle):
    # A side has a turn just where it is a door.
    return [k for k, turn in enumerate(turns_of_sides(net, triangle)) if turn != 0]


def is_end(net, beyond, end):
    triangle = end[1]
    if end[0] == "whole":
        # Each triangle of the floor has its side 0 among the keys.
        return (triangle, 0) in beyond and is_whole(net, triangle)
    side = (triangle, end[2])
    return side in beyond and beyond[side] is None and end[2] in doors(net, triangle)


def ends(net, floor):
    check_floor(net, floor)
    beyond = across(net, floor)
    found = []
    for triangle in floor:
        asked = [("whole", triangle)] + [("door", triangle, k) for k in range(3)]
        found.extend([end for end in asked if is_end(net, beyond, end)])
    return found


def follow(net, floor, end):
    check_floor(net, floor)
    beyond = across(net, floor)
    if not is_end(net, beyond, end):
        raise NoEnd("no end of the floor")
    triangle = end[1]
    # The door by which the triangle was come into; a walk from a whole triangle came by none.
    entered = end[2] if end[0] == "door" else None
    path = [triangle]
    while entered is None or not is_whole(net, triangle):
        # A whole triangle has one door, another one with a door has two: one is left to go by.
        k = [way for way in doors(net, triangle) if way != entered][0]
        other = beyond[(triangle, k)]
        if other is None:
            return (path, ("door", triangle, k))
        triangle = other[0]
        entered = other[1]
        path.append(triangle)
    return (path, ("whole", triangle))


def walk(net, floor, end):
    return follow(net, floor, end)[0]


def partner(net, floor, end):
    return follow(net, floor, end)[1]
