"""Walks: points 8 to 10 of the document and the interface of cornerdoors/walks.py."""

import copy
import itertools
import unittest

from cornerdoors.errors import NoEnd, NoFloor
from cornerdoors.nets import Net, triangles
from cornerdoors.walks import ends, partner, walk
from told import (FAR, SIZES, chance_rows, mixed_rows, rows_of, ruled_rows, some_floors, told_ends, told_sense,
                  told_triangles, told_turn, told_walk, wrong_floors, wrong_triangles)

# (0, 0) 0  (1, 0) 1  (2, 0) 1;  (0, 1) 0  (1, 1) 1;  (0, 2) 2: a strip of doors that leads to a whole triangle.
STRIP = [[0, 1, 1], [0, 1], [2]]


def many_cases(seeds=2):
    for size in SIZES:
        for seed in range(seeds):
            for rows in (chance_rows(size, seed), mixed_rows(size, seed), ruled_rows(size, seed)):
                for floor in some_floors(size, seed):
                    yield rows, floor


def worth(rows, end):
    # The sense of a whole triangle, the turn of a door.
    return told_sense(rows, end[1]) if end[0] == "whole" else told_turn(rows, end[1], end[2])


class EndsOfFloors(unittest.TestCase):
    def test_written_out(self):
        net = Net(STRIP)
        self.assertEqual(ends(net, triangles(net)), [("door", (0, 0, 0), 0), ("whole", (0, 1, 0))])
        self.assertEqual(ends(net, [(0, 0, 0)]), [("door", (0, 0, 0), 0), ("door", (0, 0, 0), 1)])
        self.assertEqual(ends(net, [(0, 0, 1)]), [("door", (0, 0, 1), 1), ("door", (0, 0, 1), 2)])
        self.assertEqual(ends(net, [(0, 1, 0)]), [("whole", (0, 1, 0)), ("door", (0, 1, 0), 0)])
        self.assertEqual(ends(net, [(1, 0, 0)]), [])
        self.assertEqual(ends(net, [(0, 0, 1), (0, 1, 0)]), [("door", (0, 0, 1), 2), ("whole", (0, 1, 0))])
        self.assertEqual(ends(net, []), [])

    def test_the_order_of_the_floor_comes_before_whole_and_door(self):
        net = Net([[0, 1, 0], [2, 2], [2]])
        self.assertEqual(ends(net, triangles(net)),
                         [("whole", (0, 0, 0)), ("door", (0, 0, 0), 0), ("whole", (1, 0, 0)), ("door", (1, 0, 0), 0)])

    def test_many_floors(self):
        for rows, floor in many_cases():
            told = ends(Net(rows), floor)
            self.assertEqual(told, told_ends(rows, floor))
            self.assertIs(type(told), list)
            for end in told:
                self.assertIs(type(end), tuple)
                self.assertIs(type(end[1]), tuple)
                self.assertEqual(len(end), 2 if end[0] == "whole" else 3)

    def test_what_is_no_floor(self):
        for size in SIZES:
            net = Net(mixed_rows(size))
            for floor in wrong_floors(size):
                with self.assertRaises(NoFloor):
                    ends(net, floor)


class WalksAndPartners(unittest.TestCase):
    def check(self, rows, floor, end):
        net = Net(rows)
        walked, other = told_walk(rows, floor, end)
        self.assertEqual(walk(net, floor, end), walked)
        self.assertEqual(partner(net, floor, end), other)

    def both(self, net, floor, end):
        return walk(net, floor, end), partner(net, floor, end)

    def test_written_out(self):
        net = Net(STRIP)
        floor = triangles(net)
        door = ("door", (0, 0, 0), 0)
        whole = ("whole", (0, 1, 0))
        self.assertEqual(self.both(net, floor, door), ([(0, 0, 0), (0, 0, 1), (0, 1, 0)], whole))
        self.assertEqual(self.both(net, floor, whole), ([(0, 1, 0), (0, 0, 1), (0, 0, 0)], door))

    def test_from_door_to_door(self):
        net = Net(STRIP)
        one = ("door", (0, 0, 0), 0)
        other = ("door", (0, 0, 1), 1)
        floor = [(0, 0, 0), (0, 0, 1)]
        self.assertEqual(self.both(net, floor, one), ([(0, 0, 0), (0, 0, 1)], other))
        self.assertEqual(self.both(net, floor, other), ([(0, 0, 1), (0, 0, 0)], one))

    def test_both_doors_of_one_triangle(self):
        net = Net(STRIP)
        one = ("door", (0, 0, 0), 0)
        other = ("door", (0, 0, 0), 1)
        self.assertEqual(self.both(net, [(0, 0, 0)], one), ([(0, 0, 0)], other))
        self.assertEqual(self.both(net, [(0, 0, 0)], other), ([(0, 0, 0)], one))

    def test_from_whole_to_whole(self):
        net = Net([[2, 1, 1], [0, 2], [0]])
        floor = [(0, 0, 0), (0, 0, 1)]
        one = ("whole", (0, 0, 0))
        other = ("whole", (0, 0, 1))
        self.assertEqual(self.both(net, floor, one), ([(0, 0, 0), (0, 0, 1)], other))
        self.assertEqual(self.both(net, floor, other), ([(0, 0, 1), (0, 0, 0)], one))

    def test_a_border_door_of_a_whole_triangle(self):
        for a, b, c in itertools.permutations((0, 1, 2)):
            for rows, triangle in (([[a, b], [c]], (0, 0, 0)), ([[0, a, 0], [c, b], [0]], (0, 0, 1))):
                net = Net(rows)
                [k] = [k for k in range(3) if told_turn(rows, triangle, k)]
                door = ("door", triangle, k)
                whole = ("whole", triangle)
                self.assertEqual(ends(net, [triangle]), [whole, door])
                self.assertEqual(self.both(net, [triangle], door), ([triangle], whole))
                self.assertEqual(self.both(net, [triangle], whole), ([triangle], door))

    def test_a_border_door_of_a_whole_triangle_among_others(self):
        met = 0
        for rows, floor in many_cases(1):
            net = Net(rows)
            for end in told_ends(rows, floor):
                if end[0] == "door" and told_sense(rows, end[1]):
                    self.assertEqual(self.both(net, floor, end), ([end[1]], ("whole", end[1])))
                    self.assertEqual(self.both(net, floor, ("whole", end[1])), ([end[1]], end))
                    met += 1
        self.assertGreater(met, 100)

    def test_all_ends_of_many_floors(self):
        longest = 0
        kinds = set()
        for rows, floor in many_cases():
            net = Net(rows)
            for end in told_ends(rows, floor):
                walked, other = told_walk(rows, floor, end)
                self.assertEqual(self.both(net, floor, end), (walked, other))
                longest = max(longest, len(walked))
                kinds.add((end[0], other[0]))
        self.assertGreater(longest, 10)
        self.assertEqual(len(kinds), 4)

    def test_a_walk_as_long_as_a_net_of_size_12_has_it(self):
        # A row of 0s above a row of 1s: the doors lead from the one edge to the other.
        rows = rows_of(12, lambda x, y: 1 if y == 0 else 0)
        floor = told_triangles(12)
        end = ("door", (0, 0, 0), 2)
        self.assertEqual(walk(Net(rows), floor, end), [triangle for triangle in floor if triangle[1] == 0])
        self.assertEqual(partner(Net(rows), floor, end), ("door", (11, 0, 0), 1))
        self.check(rows, floor, ("door", (11, 0, 0), 1))

    def test_all_ends_of_every_floor_of_a_small_net(self):
        everything = told_triangles(3)
        for rows in ([[0, 1, 0, 1], [2, 0, 1], [1, 0], [2]], chance_rows(3, 5)):
            for chosen in itertools.product((False, True), repeat=9):
                floor = list(itertools.compress(everything, chosen))
                for end in told_ends(rows, floor):
                    self.check(rows, floor, end)

    def test_what_point_10_says_of_partners(self):
        met = set()
        for rows, floor in many_cases():
            net = Net(rows)
            told = ends(net, floor)
            self.assertEqual(len(told) % 2, 0)
            for end in told:
                other = partner(net, floor, end)
                self.assertNotEqual(other, end)
                self.assertIn(other, told)
                self.assertEqual(partner(net, floor, other), end)
                self.assertEqual(walk(net, floor, other), walk(net, floor, end)[::-1])
                same = end[0] != other[0]
                self.assertEqual(worth(rows, end), worth(rows, other) if same else -worth(rows, other))
                met.add((end[0], other[0]))
        self.assertEqual(len(met), 4)

    def test_kinds_of_what_is_told(self):
        rows = chance_rows(6, 1)
        net = Net(rows)
        for floor in some_floors(6, 1):
            for end in ends(net, floor):
                walked, other = self.both(net, floor, end)
                self.assertIs(type(walked), list)
                self.assertEqual({type(triangle) for triangle in walked}, {tuple})
                self.assertEqual([type(other), type(other[1])], [tuple, tuple])

    def test_an_end_that_was_built_anew_is_taken(self):
        net = Net(STRIP)
        floor = triangles(net)
        end = tuple(["do" + "or", tuple([0, 0, 0]), 0])
        self.assertEqual(walk(net, floor, end), [(0, 0, 0), (0, 0, 1), (0, 1, 0)])


class RefusedEnds(unittest.TestCase):
    def refused(self, net, floor, end, error=NoEnd):
        for asked in (walk, partner):
            with self.assertRaises(error):
                asked(net, floor, end)

    def test_written_out(self):
        net = Net(STRIP)
        floor = triangles(net)
        # Not whole; a door, but no border side; a border side, but no door; neither.
        self.refused(net, floor, ("whole", (0, 0, 0)))
        self.refused(net, floor, ("door", (0, 0, 0), 1))
        self.refused(net, floor, ("door", (0, 0, 0), 2))
        self.refused(net, floor, ("door", (0, 0, 1), 0))
        # Not on the floor.
        self.refused(net, [(0, 0, 0), (0, 0, 1)], ("whole", (0, 1, 0)))
        self.refused(net, [(0, 0, 1), (0, 1, 0)], ("door", (0, 0, 0), 0))
        # The door of the neighbour that has it, but is not on the floor.
        self.refused(net, [(0, 0, 0)], ("door", (0, 0, 1), 2))

    def test_each_side_and_triangle_that_is_no_end(self):
        for size in (1, 2, 3, 6):
            rows = chance_rows(size, 2)
            net = Net(rows)
            for floor in some_floors(size, 2):
                told = told_ends(rows, floor)
                asked = [("whole", triangle) for triangle in told_triangles(size)]
                asked += [("door", triangle, k) for triangle in told_triangles(size) for k in range(-3, 7)]
                for end in asked:
                    if end not in told:
                        self.refused(net, floor, end)

    def test_an_end_of_the_whole_net_alone(self):
        rows = chance_rows(12, 3)
        net = Net(rows)
        for floor in some_floors(12, 3):
            told = told_ends(rows, floor)
            for end in told_ends(rows, told_triangles(12)):
                if end not in told:
                    self.refused(net, floor, end)

    def test_a_triangle_that_is_none_of_the_net(self):
        for size in (1, 3, 12):
            net = Net(mixed_rows(size))
            for bad in wrong_triangles(size):
                self.refused(net, told_triangles(size), ("whole", bad))
                self.refused(net, [], ("door", bad, 0))
                for k in (0, 1, 2):
                    self.refused(net, told_triangles(size), ("door", bad, k))

    def test_a_side_that_is_none(self):
        for size in SIZES:
            rows = chance_rows(size, 1)
            net = Net(rows)
            floor = told_triangles(size)
            for end in told_ends(rows, floor):
                for k in (3, -1):
                    self.refused(net, floor, ("door", end[1], k))

    def test_a_side_that_only_counts_round_to_a_door(self):
        # Of the one triangle side 0 alone is a door, and sides 1 and 2 are none.
        net = Net([[0, 1], [2]])
        for k in [3, -1, -3, 6, 4, -2, 1, 2] + FAR + [-far for far in FAR]:
            self.refused(net, [(0, 0, 0)], ("door", (0, 0, 0), k))
        for last in ([[1, 2], [0]], [[0, 2], [1]]):
            self.refused(Net(last), [(0, 0, 0)], ("door", (0, 0, 0), -1))
            self.assertEqual(walk(Net(last), [(0, 0, 0)], ("door", (0, 0, 0), 2)), [(0, 0, 0)])

    def test_the_empty_floor_has_no_end(self):
        for size in SIZES:
            net = Net(rows_of(size))
            for triangle in told_triangles(size):
                self.refused(net, [], ("whole", triangle))
                self.refused(net, [], ("door", triangle, 0))

    def test_no_floor_comes_before_no_end(self):
        for size in (1, 2, 4, 12):
            net = Net(rows_of(size))
            for floor in wrong_floors(size):
                for end in (("whole", (0, 0, 0)), ("door", (0, 0, 0), 0), ("whole", (-1, 0, 0)),
                            ("door", (0, 0, 0), 3), ("door", (10 ** 30, 0, 5), -1)):
                    self.refused(net, floor, end, NoFloor)


class NothingKept(unittest.TestCase):
    def test_what_was_handed_in_stays_as_it_was(self):
        for size in (1, 2, 5):
            rows = chance_rows(size, 0)
            net = Net(rows)
            for floor in some_floors(size, 1) + wrong_floors(size):
                before = copy.copy(floor)
                asked = [lambda: ends(net, floor)]
                for end in [("whole", (0, 0, 0)), ("door", (0, 0, 0), 0), ("door", (0, 0, 0), 3)]:
                    asked += [lambda end=end: walk(net, floor, end), lambda end=end: partner(net, floor, end)]
                for ask in asked:
                    try:
                        ask()
                    except (NoFloor, NoEnd):
                        pass
                    self.assertEqual(floor, before)
                    self.assertEqual(vars(net), {"size": size, "marks": rows})

    def test_what_was_told_may_be_changed(self):
        rows = chance_rows(5, 4)
        net = Net(rows)
        for floor in some_floors(5, 4):
            before = copy.copy(floor)
            told = ends(net, floor)
            told.reverse()
            told.append(("whole", (9, 9, 9)))
            self.assertEqual(ends(net, floor), told_ends(rows, floor))
            for end in told_ends(rows, floor):
                walked = walk(net, floor, end)
                walked.reverse()
                walked.append((9, 9, 9))
                self.assertEqual(walk(net, floor, end), told_walk(rows, floor, end)[0])
            self.assertEqual(floor, before)

    def test_a_walk_over_the_whole_floor_is_not_the_floor(self):
        net = Net(STRIP)
        floor = [(0, 0, 0), (0, 0, 1), (0, 1, 0)]
        walked = walk(net, floor, ("door", (0, 0, 0), 0))
        self.assertEqual(walked, floor)
        self.assertIsNot(walked, floor)
        floor.pop()
        self.assertEqual(len(walked), 3)
        self.assertEqual(walk(net, floor, ("door", (0, 0, 0), 0)), floor)


if __name__ == "__main__":
    unittest.main()
