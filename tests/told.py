"""What the document says, written once more and plainly for the tests, over rows of marks alone.

Nothing here draws from the package: the tests hold the package against it.
"""

import itertools
import random

SIZES = range(1, 13)
FAR = [50, 10 ** 6, 10 ** 30, 10 ** 5000]


def rows_of(size, rule=lambda x, y: (x + 2 * y) % 3):
    return [[rule(x, y) for x in range(size - y + 1)] for y in range(size + 1)]


def mixed_rows(size, seed=0):
    return rows_of(size, lambda x, y: (x * x + 5 * x * y + 3 * y * y * y + seed * (x + 1) + seed * y * y) % 3)


def places_of(size):
    span = range(size + 1)
    return [place for place in itertools.product(span, span) if sum(place) <= size]


def told_corners(triangle):
    x, y, kind = triangle
    if kind == 0:
        return [(x, y), (x + 1, y), (x, y + 1)]
    return [(x + 1, y), (x + 1, y + 1), (x, y + 1)]


def told_triangles(size):
    places = places_of(size)
    around = itertools.product(range(-2, size + 3), range(-2, size + 3), (0, 1))
    return [triangle for triangle in around if all(place in places for place in told_corners(triangle))]


def chance(*seed):
    # The same numbers in every run.
    return random.Random(repr(seed))


def chance_rows(size, seed):
    source = chance("rows", size, seed)
    return rows_of(size, lambda x, y: int(source.random() * 3))


def ruled_choices(size, x, y):
    choices = [0, 1, 2]
    for value, missing in ((2, y == 0), (1, x == 0), (0, x + y == size)):
        if missing:
            choices.remove(value)
    return choices


def ruled_rows(size, seed):
    source = chance("ruled", size, seed)

    def rule(x, y):
        choices = ruled_choices(size, x, y)
        return choices[int(source.random() * len(choices))]

    return rows_of(size, rule)


def told_ruled(rows):
    size = len(rows) - 1
    return (rows[0][0] == 0 and rows[0][size] == 1 and rows[size][0] == 2
            and 2 not in rows[0]
            and 1 not in [row[0] for row in rows]
            and 0 not in [row[-1] for row in rows])


def some_floors(size, seed):
    """The empty floor, all triangles, and parts of them from thin to thick."""
    source = chance("floors", size, seed)
    everything = told_triangles(size)
    floors = [[], everything]
    for share in (0.1, 0.3, 0.5, 0.7, 0.9):
        floors.append([triangle for triangle in everything if source.random() < share])
    return floors


def marks_of(rows, triangle):
    return [rows[y][x] for x, y in told_corners(triangle)]


def told_sense(rows, triangle):
    marks = marks_of(rows, triangle)
    if sorted(marks) != [0, 1, 2]:
        return 0
    return 1 if marks in ([0, 1, 2], [1, 2, 0], [2, 0, 1]) else -1


def told_side(triangle, k):
    corners = told_corners(triangle)
    return corners[k], corners[0 if k == 2 else k + 1]


def told_turn(rows, triangle, k):
    (x, y), (other_x, other_y) = told_side(triangle, k)
    return {(0, 1): 1, (1, 0): -1}.get((rows[y][x], rows[other_y][other_x]), 0)


def told_others(floor, triangle, k):
    """The sides of the floor's other triangles between the same two places."""
    places = set(told_side(triangle, k))
    # Triangles farther off have no place in common with this one.
    near = [other for other in floor if abs(other[0] - triangle[0]) < 3 and abs(other[1] - triangle[1]) < 3]
    near = [other for other in near if other != triangle]
    return [(other, j) for other in near for j in range(3) if set(told_side(other, j)) == places]


def told_border(floor):
    return [(triangle, k) for triangle in floor for k in range(3) if not told_others(floor, triangle, k)]


def told_ends(rows, floor):
    outer = told_border(floor)
    found = []
    for triangle in floor:
        if told_sense(rows, triangle):
            found.append(("whole", triangle))
        for k in range(3):
            if (triangle, k) in outer and told_turn(rows, triangle, k):
                found.append(("door", triangle, k))
    return found


def told_walk(rows, floor, end):
    """The walk of an end and its partner, step by step as point 9 tells it."""
    triangle = end[1]
    walked = [triangle]
    left = [k for k in range(3) if told_turn(rows, triangle, k)]
    if end[0] == "door":
        left.remove(end[2])
        if told_sense(rows, triangle):
            return walked, ("whole", triangle)
    while True:
        [k] = left
        others = told_others(floor, triangle, k)
        if not others:
            return walked, ("door", triangle, k)
        [(triangle, entered)] = others
        walked.append(triangle)
        if told_sense(rows, triangle):
            return walked, ("whole", triangle)
        left = [j for j in range(3) if told_turn(rows, triangle, j)]
        left.remove(entered)


def wrong_floors(size):
    """Lists of tuples of three numbers that are no floors of a net of this size."""
    everything = told_triangles(size)
    last = everything[-1]
    wrong = []
    for triangle in everything:
        wrong.append([triangle, triangle])
    wrong.append(everything + [last])
    if len(everything) > 1:
        wrong.append(everything[::-1])
        for at in range(len(everything) - 1):
            wrong.append(everything[:at] + [everything[at + 1], everything[at]] + everything[at + 2:])
            wrong.append(everything[:at] + [everything[at], everything[at]] + everything[at + 1:])
    for bad in wrong_triangles(size):
        wrong.append([bad])
        wrong.append(sorted(everything + [bad]))
    return wrong


def wrong_triangles(size):
    bad = [(size, 0, 0), (0, size, 0), (0, size - 1, 1), (size - 1, 0, 1), (size, 0, 1), (0, size, 1)]
    for kind in (0, 1):
        bad += [(step, size - kind - step, kind) for step in range(size - kind + 1)]
        bad += [(-1, 0, kind), (0, -1, kind), (-1, -1, kind), (size, -1, kind), (-1, size, kind)]
        for far in FAR:
            bad += [(far, 0, kind), (0, far, kind), (-far, 0, kind), (0, -far, kind), (far, -far, kind)]
    bad += [(0, 0, kind) for kind in [2, 3, -1, -2] + FAR + [-far for far in FAR]]
    return bad
