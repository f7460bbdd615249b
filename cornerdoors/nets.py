"""Nets of places with marks, their triangles, and the senses of these."""

# The words of the refusals show no number that was handed in: Python doesn't write out very long ones.

from cornerdoors.errors import BadNet, NoPlace, NoTriangle

SMALLEST_SIZE = 1
LARGEST_SIZE = 12
MARKS = (0, 1, 2)
FORWARD_ORDERS = ((0, 1, 2), (1, 2, 0), (2, 0, 1))


def check_marks(rows):
    size = len(rows) - 1
    if size < SMALLEST_SIZE or size > LARGEST_SIZE:
        raise BadNet("a net has 2 to 13 rows")
    for y, row in enumerate(rows):
        if len(row) != size - y + 1:
            raise BadNet(f"row {y} is too long or too short")
        for value in row:
            if value not in MARKS:
                raise BadNet(f"row {y} has a mark that is not 0, 1 or 2")


class Net:
    def __init__(self, marks):
        check_marks(marks)
        self.size = len(marks) - 1
        # Rows of its own: what was handed in may be changed later.
        self.marks = [list(row) for row in marks]


def is_place(net, x, y):
    return x >= 0 and y >= 0 and x + y <= net.size


def mark(net, x, y):
    if not is_place(net, x, y):
        raise NoPlace("no place of the net")
    return net.marks[y][x]


def corners(net, triangle):
    x = triangle[0]
    y = triangle[1]
    if triangle[2] == 0:
        places = [(x, y), (x + 1, y), (x, y + 1)]
    elif triangle[2] == 1:
        places = [(x + 1, y), (x + 1, y + 1), (x, y + 1)]
    else:
        raise NoTriangle("a triangle's third number is 0 or 1")
    for place in places:
        if not is_place(net, place[0], place[1]):
            raise NoTriangle("no triangle of the net")
    return places


def sides(net, triangle):
    places = corners(net, triangle)
    return [(places[k], places[(k + 1) % 3]) for k in range(3)]


def triangles(net):
    found = []
    for x in range(net.size):
        for y in range(net.size - x):
            found.append((x, y, 0))
            # The last triangle along the slanted edge has no neighbour beyond it.
            if x + y + 2 <= net.size:
                found.append((x, y, 1))
    return found


def sense(net, triangle):
    seen = [mark(net, place[0], place[1]) for place in corners(net, triangle)]
    if sorted(seen) != [0, 1, 2]:
        return 0
    if tuple(seen) in FORWARD_ORDERS:
        return 1
    return -1
