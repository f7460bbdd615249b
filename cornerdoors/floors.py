"""Floors of triangles, their border sides, and the two sums that are the same on each of them."""

from cornerdoors.errors import NoFloor, NoTriangle
from cornerdoors.nets import corners, mark, sense, sides


def is_triangle(net, triangle):
    try:
        corners(net, triangle)
    except NoTriangle:
        return False
    return True


def is_floor(net, floor):
    for at, triangle in enumerate(floor):
        if not is_triangle(net, triangle):
            return False
        if at > 0 and floor[at - 1] >= triangle:
            return False
    return True


def check_floor(net, floor):
    if not is_floor(net, floor):
        raise NoFloor("a floor is a rising list of triangles of the net")


def across(net, floor):
    # To each side (triangle, k) the side of the floor's other triangle between the same two places,
    # or None at the border. The keys come in the order of the floor, then of k; border relies on it.
    met = {}
    beyond = {}
    for triangle in floor:
        for k, side in enumerate(sides(net, triangle)):
            # Two triangles lead along the side they share in opposite ways.
            places = tuple(sorted(side))
            other = met.get(places)
            beyond[(triangle, k)] = other
            if other is not None:
                beyond[other] = (triangle, k)
            met[places] = (triangle, k)
    return beyond


def border(net, floor):
    check_floor(net, floor)
    return [side for side, other in across(net, floor).items() if other is None]


def turn(start, goal):
    if start == 0 and goal == 1:
        return 1
    if start == 1 and goal == 0:
        return -1
    return 0


def turns_of_sides(net, triangle):
    seen = [mark(net, place[0], place[1]) for place in corners(net, triangle)]
    return [turn(seen[k], seen[(k + 1) % 3]) for k in range(3)]


def senses(net, floor):
    check_floor(net, floor)
    return sum([sense(net, triangle) for triangle in floor])


def turns(net, floor):
    return sum([turns_of_sides(net, triangle)[k] for triangle, k in border(net, floor)])
