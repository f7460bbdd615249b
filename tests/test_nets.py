"""Nets: points 1 to 4 of the document and the interface of cornerdoors/nets.py."""

import copy
import itertools
import unittest

from cornerdoors.errors import BadNet, NoPlace, NoTriangle
from cornerdoors.nets import Net, corners, mark, sense, sides, triangles
from told import FAR, SIZES, mixed_rows, places_of, rows_of, told_corners, told_triangles


class MakingNets(unittest.TestCase):
    def test_sizes_1_to_12_are_taken(self):
        for size in SIZES:
            with self.subTest(size):
                rows = mixed_rows(size)
                net = Net(rows)
                self.assertIs(type(net.size), int)
                self.assertEqual(net.size, size)
                self.assertIs(type(net.marks), list)
                self.assertEqual(net.marks, rows)
                for row in net.marks:
                    self.assertIs(type(row), list)

    def test_every_net_of_size_1_is_taken(self):
        for a, b, c in itertools.product((0, 1, 2), repeat=3):
            self.assertEqual(Net([[a, b], [c]]).marks, [[a, b], [c]])

    def test_nets_of_one_mark_are_taken(self):
        for size in SIZES:
            for value in (0, 1, 2):
                rows = rows_of(size, lambda x, y: value)
                self.assertEqual(Net(rows).marks, rows)

    def test_a_mark_out_of_bounds_is_refused_at_any_place(self):
        for size in SIZES:
            for x, y in places_of(size):
                for value in (-1, 3, -10 ** 30, 10 ** 5000):
                    rows = mixed_rows(size)
                    rows[y][x] = value
                    with self.assertRaises(BadNet):
                        Net(rows)

    def test_a_row_too_long_or_too_short_is_refused(self):
        for size in SIZES:
            for y in range(size + 1):
                with self.subTest(size=size, y=y):
                    longer = mixed_rows(size)
                    longer[y].append(0)
                    with self.assertRaises(BadNet):
                        Net(longer)
                    shorter = mixed_rows(size)
                    shorter[y].pop()
                    with self.assertRaises(BadNet):
                        Net(shorter)

    def test_a_row_too_many_or_too_few_is_refused(self):
        for size in SIZES:
            rows = mixed_rows(size)
            for added in ([], [0], [0, 0]):
                with self.assertRaises(BadNet):
                    Net(rows + [added])
            with self.assertRaises(BadNet):
                Net(rows[:-1])
            with self.assertRaises(BadNet):
                Net([rows[0]] + rows)

    def test_no_rows_one_row_and_fourteen_rows_are_refused(self):
        for rows in ([], [[]], [[0]], [[0, 1]], [[], []], rows_of(13), rows_of(14), rows_of(40)):
            with self.subTest(len(rows)):
                with self.assertRaises(BadNet):
                    Net(rows)

    def test_rows_of_one_length_or_turned_round_are_refused(self):
        for rows in ([[0, 1], [2, 0]], [[0], [1, 2]], [[0, 1, 2], [0, 1, 2], [0, 1, 2]]):
            with self.assertRaises(BadNet):
                Net(rows)

    def test_refused_rows_stay_as_they_were(self):
        for rows in ([[0, 1], [3]], [[0, 1], []], [[0]], [], rows_of(13)):
            before = copy.deepcopy(rows)
            with self.assertRaises(BadNet):
                Net(rows)
            self.assertEqual(rows, before)


class NothingKept(unittest.TestCase):
    def test_what_was_handed_in_stays_as_it_was(self):
        for size in SIZES:
            rows = mixed_rows(size)
            inner = list(rows)
            net = Net(rows)
            for triangle in triangles(net):
                corners(net, triangle)
                sense(net, triangle)
            for x, y in places_of(size):
                mark(net, x, y)
            self.assertEqual(rows, mixed_rows(size))
            for row, same in zip(rows, inner, strict=True):
                self.assertIs(row, same)

    def test_a_later_change_of_the_list_is_not_seen(self):
        rows = mixed_rows(4)
        net = Net(rows)
        rows.pop()
        rows[0] = [2]
        rows.append([])
        self.assertEqual(net.size, 4)
        self.assertEqual(net.marks, mixed_rows(4))

    def test_a_later_change_of_a_row_is_not_seen(self):
        for changed in range(5):
            rows = mixed_rows(4)
            net = Net(rows)
            rows[changed][0] = (rows[changed][0] + 1) % 3
            rows[changed].append(7)
            self.assertEqual(net.marks, mixed_rows(4))
            self.assertEqual(mark(net, 0, changed), mixed_rows(4)[changed][0])

    def test_nets_of_one_list_have_no_list_in_common(self):
        rows = mixed_rows(3)
        one = Net(rows)
        other = Net(rows)
        again = Net(one.marks)
        lists = []
        for marks in (rows, one.marks, other.marks, again.marks):
            lists.append(marks)
            lists.extend(marks)
        self.assertEqual(len({id(each) for each in lists}), len(lists))

    def test_asking_leaves_the_net_as_it_was(self):
        net = Net(mixed_rows(5))
        triangles(net).clear()
        for triangle in told_triangles(5):
            corners(net, triangle).clear()
            sides(net, triangle).clear()
            sense(net, triangle)
        for asked in ((5, 1), (-1, 0)):
            with self.assertRaises(NoPlace):
                mark(net, *asked)
        self.assertEqual(net.size, 5)
        self.assertEqual(net.marks, mixed_rows(5))
        self.assertEqual(vars(net), {"size": 5, "marks": mixed_rows(5)})


class MarksOfPlaces(unittest.TestCase):
    def test_written_out(self):
        net = Net([[0, 1, 1], [2, 0], [1]])
        told = {(0, 0): 0, (1, 0): 1, (2, 0): 1, (0, 1): 2, (1, 1): 0, (0, 2): 1}
        for (x, y), value in told.items():
            self.assertEqual(mark(net, x, y), value)

    def test_each_place_of_each_size(self):
        for size in SIZES:
            rows = mixed_rows(size)
            net = Net(rows)
            for x, y in places_of(size):
                self.assertEqual(mark(net, x, y), rows[y][x])

    def test_off_by_one_on_each_side(self):
        for size in SIZES:
            net = Net(mixed_rows(size))
            for step in range(-1, size + 2):
                for x, y in ((-1, step), (step, -1), (step, size + 1 - step)):
                    with self.subTest(size=size, x=x, y=y):
                        with self.assertRaises(NoPlace):
                            mark(net, x, y)

    def test_all_around(self):
        for size in SIZES:
            net = Net(mixed_rows(size))
            places = places_of(size)
            for x, y in itertools.product(range(-size - 3, size + 4), repeat=2):
                if (x, y) not in places:
                    with self.assertRaises(NoPlace):
                        mark(net, x, y)

    def test_far_off(self):
        net = Net(mixed_rows(3))
        for far in FAR:
            for x, y in ((far, 0), (0, far), (-far, 0), (0, -far), (far, -far), (-far, far), (far, far)):
                with self.assertRaises(NoPlace):
                    mark(net, x, y)


class CornersOfTriangles(unittest.TestCase):
    def test_written_out(self):
        net = Net(mixed_rows(4))
        self.assertEqual(corners(net, (0, 0, 0)), [(0, 0), (1, 0), (0, 1)])
        self.assertEqual(corners(net, (0, 0, 1)), [(1, 0), (1, 1), (0, 1)])
        self.assertEqual(corners(net, (2, 1, 0)), [(2, 1), (3, 1), (2, 2)])
        self.assertEqual(corners(net, (0, 2, 1)), [(1, 2), (1, 3), (0, 3)])

    def test_each_triangle_of_each_size(self):
        for size in SIZES:
            net = Net(mixed_rows(size))
            for triangle in told_triangles(size):
                told = corners(net, triangle)
                self.assertEqual(told, told_corners(triangle))
                self.assertIs(type(told), list)
                for place in told:
                    self.assertIs(type(place), tuple)

    def test_the_list_may_be_changed(self):
        net = Net(mixed_rows(3))
        for triangle in told_triangles(3):
            told = corners(net, triangle)
            self.assertIsNot(told, corners(net, triangle))
            told.reverse()
            told.append((9, 9))
            self.assertEqual(corners(net, triangle), told_corners(triangle))

    def test_sides_lead_from_corner_to_next_corner(self):
        net = Net(mixed_rows(3))
        self.assertEqual(sides(net, (1, 0, 0)), [((1, 0), (2, 0)), ((2, 0), (1, 1)), ((1, 1), (1, 0))])
        self.assertEqual(sides(net, (1, 0, 1)), [((2, 0), (2, 1)), ((2, 1), (1, 1)), ((1, 1), (2, 0))])
        with self.assertRaises(NoTriangle):
            sides(net, (3, 0, 0))


class RefusedTriangles(unittest.TestCase):
    def refused(self, net, triangle):
        with self.assertRaises(NoTriangle):
            corners(net, triangle)
        with self.assertRaises(NoTriangle):
            sense(net, triangle)

    def test_off_by_one_on_each_side(self):
        for size in SIZES:
            net = Net(mixed_rows(size))
            for step in range(-1, size + 2):
                for kind in (0, 1):
                    self.refused(net, (-1, step, kind))
                    self.refused(net, (step, -1, kind))
                    self.refused(net, (step, size - kind - step, kind))

    def test_all_around(self):
        for size in SIZES:
            net = Net(mixed_rows(size))
            inside = told_triangles(size)
            for triangle in itertools.product(range(-3, size + 4), range(-3, size + 4), range(-2, 4)):
                if triangle not in inside:
                    self.refused(net, triangle)

    def test_far_off(self):
        net = Net(mixed_rows(3))
        for far in FAR:
            for kind in (0, 1):
                for x, y in ((far, 0), (0, far), (-far, 0), (0, -far), (far, -far), (-far, far)):
                    self.refused(net, (x, y, kind))

    def test_a_kind_that_is_none(self):
        net = Net(mixed_rows(4))
        for kind in (2, -1, -2, 3) + tuple(FAR):
            self.refused(net, (0, 0, kind))
            self.refused(net, (1, 1, kind))


class AllTriangles(unittest.TestCase):
    def test_written_out(self):
        self.assertEqual(triangles(Net([[0, 1], [2]])), [(0, 0, 0)])
        self.assertEqual(triangles(Net(mixed_rows(2))), [(0, 0, 0), (0, 0, 1), (0, 1, 0), (1, 0, 0)])
        told = [(0, 0, 0), (0, 0, 1), (0, 1, 0), (0, 1, 1), (0, 2, 0), (1, 0, 0), (1, 0, 1), (1, 1, 0), (2, 0, 0)]
        self.assertEqual(triangles(Net(mixed_rows(3))), told)

    def test_all_of_each_size_rising(self):
        for size in SIZES:
            told = triangles(Net(mixed_rows(size)))
            self.assertEqual(told, told_triangles(size))
            self.assertEqual(told, sorted(told))
            self.assertEqual(len(told), size * size)
            self.assertIs(type(told), list)
            for triangle in told:
                self.assertIs(type(triangle), tuple)
                self.assertEqual([type(number) for number in triangle], [int, int, int])

    def test_the_same_again_behind_a_change(self):
        net = Net(mixed_rows(4))
        told = triangles(net)
        told.reverse()
        told.append((0, 0, 9))
        told[0] = None
        self.assertEqual(triangles(net), told_triangles(4))

    def test_marks_do_not_matter(self):
        for value in (0, 1, 2):
            self.assertEqual(triangles(Net(rows_of(5, lambda x, y: value))), told_triangles(5))


class Senses(unittest.TestCase):
    FORWARD = [(0, 1, 2), (1, 2, 0), (2, 0, 1)]
    BACKWARD = [(0, 2, 1), (2, 1, 0), (1, 0, 2)]

    def told_sense(self, seen):
        if seen in self.FORWARD:
            return 1
        if seen in self.BACKWARD:
            return -1
        return 0

    def test_all_marks_of_the_first_kind(self):
        for seen in itertools.product((0, 1, 2), repeat=3):
            a, b, c = seen
            self.assertEqual(sense(Net([[a, b], [c]]), (0, 0, 0)), self.told_sense(seen))

    def test_all_marks_of_the_second_kind(self):
        for seen in itertools.product((0, 1, 2), repeat=3):
            a, b, c = seen
            net = Net([[0, a, 0], [c, b], [0]])
            self.assertEqual(sense(net, (0, 0, 1)), self.told_sense(seen))

    def test_each_triangle_of_each_size(self):
        met = []
        for size in SIZES:
            for seed in (0, 1, 2, 4):
                rows = mixed_rows(size, seed)
                net = Net(rows)
                for triangle in told_triangles(size):
                    seen = tuple(rows[y][x] for x, y in told_corners(triangle))
                    told = sense(net, triangle)
                    self.assertIs(type(told), int)
                    self.assertEqual(told, self.told_sense(seen))
                    met.append((told, triangle[2]))
        self.assertEqual(set(met), set(itertools.product((1, -1, 0), (0, 1))))

    def test_every_triangle_whole(self):
        # Marks that rise by one along x and by two along y make neighbours unlike in sense.
        net = Net(rows_of(12))
        turned = Net(rows_of(12, lambda x, y: (2 * x + y) % 3))
        for triangle in told_triangles(12):
            told = 1 if triangle[2] == 0 else -1
            self.assertEqual(sense(net, triangle), told)
            self.assertEqual(sense(turned, triangle), -told)


if __name__ == "__main__":
    unittest.main()
