"""Floors: points 5 to 7 of the document and the interface of cornerdoors/floors.py."""

import copy
import itertools
import unittest

from cornerdoors.errors import NoFloor
from cornerdoors.floors import border, is_floor, senses, turns
from cornerdoors.nets import Net, triangles
from told import (FAR, SIZES, chance_rows, mixed_rows, rows_of, ruled_rows, some_floors, told_border, told_sense,
                  told_triangles, told_turn, wrong_floors, wrong_triangles)

REFUSING = (border, senses, turns)


class WhatIsAFloor(unittest.TestCase):
    def taken(self, net, floor):
        self.assertIs(is_floor(net, floor), True)
        for asked in REFUSING:
            asked(net, floor)

    def refused(self, net, floor):
        self.assertIs(is_floor(net, floor), False)
        for asked in REFUSING:
            with self.assertRaises(NoFloor):
                asked(net, floor)

    def test_the_empty_list(self):
        for size in SIZES:
            net = Net(mixed_rows(size))
            self.taken(net, [])
            self.assertEqual(border(net, []), [])
            self.assertEqual(senses(net, []), 0)
            self.assertEqual(turns(net, []), 0)

    def test_one_triangle(self):
        for size in SIZES:
            net = Net(mixed_rows(size))
            for triangle in told_triangles(size):
                self.taken(net, [triangle])

    def test_all_triangles(self):
        for size in SIZES:
            net = Net(mixed_rows(size))
            self.taken(net, told_triangles(size))
            self.taken(net, triangles(net))

    def test_some_triangles(self):
        for size in SIZES:
            net = Net(mixed_rows(size))
            for seed in range(4):
                for floor in some_floors(size, seed):
                    self.taken(net, floor)

    def test_every_part_of_a_small_net_in_every_order(self):
        net = Net(mixed_rows(2))
        for length in range(5):
            for floor in itertools.product(told_triangles(2), repeat=length):
                rising = list(floor) == sorted(set(floor))
                (self.taken if rising else self.refused)(net, list(floor))

    def test_a_triangle_twice_or_out_of_order_or_off_the_net(self):
        for size in SIZES:
            net = Net(mixed_rows(size))
            for floor in wrong_floors(size):
                self.refused(net, floor)

    def test_the_same_triangle_twice_but_apart(self):
        net = Net(mixed_rows(3))
        self.refused(net, [(0, 0, 0), (0, 1, 0), (0, 0, 0)])
        self.refused(net, [(0, 0, 1), (0, 1, 0), (0, 1, 0), (1, 0, 0)])

    def test_out_of_order_in_each_number(self):
        net = Net(mixed_rows(4))
        self.refused(net, [(1, 0, 0), (0, 2, 1)])
        self.refused(net, [(0, 2, 0), (0, 1, 1)])
        self.refused(net, [(0, 1, 1), (0, 1, 0)])
        self.taken(net, [(0, 2, 1), (1, 0, 0)])
        self.taken(net, [(0, 1, 1), (0, 2, 0)])
        self.taken(net, [(0, 1, 0), (0, 1, 1)])

    def test_a_wrong_triangle_at_each_place_of_a_rising_list(self):
        net = Net(mixed_rows(3))
        for bad in wrong_triangles(3):
            for floor in some_floors(3, 7):
                self.refused(net, sorted(floor + [bad]))

    def test_a_floor_of_a_larger_net_is_none_of_a_smaller_one(self):
        for size in SIZES[:-1]:
            self.refused(Net(mixed_rows(size)), told_triangles(size + 1))
            self.taken(Net(mixed_rows(size + 1)), told_triangles(size))

    def test_far_numbers_alone(self):
        net = Net(mixed_rows(12))
        for far in FAR:
            self.refused(net, [(far, far, far)])
            self.refused(net, [(-far, -far, -far), (0, 0, 0)])
            self.refused(net, [(0, 0, 0), (far, 0, 0)])


class BorderSides(unittest.TestCase):
    def test_written_out(self):
        net = Net(mixed_rows(2))
        around = (0, 1, 2)
        self.assertEqual(border(net, [(0, 0, 0)]), [((0, 0, 0), k) for k in around])
        self.assertEqual(border(net, [(0, 0, 1)]), [((0, 0, 1), k) for k in around])
        self.assertEqual(border(net, [(0, 0, 0), (0, 0, 1)]),
                         [((0, 0, 0), 0), ((0, 0, 0), 2), ((0, 0, 1), 0), ((0, 0, 1), 1)])
        # These two have a corner in common, but no side.
        self.assertEqual(border(net, [(0, 1, 0), (1, 0, 0)]),
                         [((0, 1, 0), k) for k in around] + [((1, 0, 0), k) for k in around])
        self.assertEqual(border(net, triangles(net)),
                         [((0, 0, 0), 0), ((0, 0, 0), 2), ((0, 1, 0), 1), ((0, 1, 0), 2),
                          ((1, 0, 0), 0), ((1, 0, 0), 1)])

    def test_a_hole_has_a_border(self):
        net = Net(mixed_rows(3))
        floor = triangles(net)
        floor.remove((1, 0, 1))
        told = border(net, floor)
        for side in (((1, 0, 0), 1), ((1, 1, 0), 0), ((2, 0, 0), 2)):
            self.assertIn(side, told)

    def test_many_floors(self):
        for size in SIZES:
            net = Net(mixed_rows(size))
            for seed in range(4):
                for floor in some_floors(size, seed):
                    told = border(net, floor)
                    self.assertEqual(told, told_border(floor))
                    self.assertEqual(told, sorted(told))
                    self.assertIs(type(told), list)
                    for side in told:
                        self.assertEqual([type(side), type(side[0]), type(side[1])], [tuple, tuple, int])

    def test_every_floor_of_a_small_net(self):
        net = Net(mixed_rows(3))
        everything = told_triangles(3)
        for chosen in itertools.product((False, True), repeat=9):
            floor = list(itertools.compress(everything, chosen))
            self.assertEqual(border(net, floor), told_border(floor))

    def test_marks_do_not_matter(self):
        floor = some_floors(5, 3)[4]
        for value in (0, 1, 2):
            self.assertEqual(border(Net(rows_of(5, lambda x, y: value)), floor), told_border(floor))


class TheTwoSums(unittest.TestCase):
    def check(self, rows, floor):
        net = Net(rows)
        told = senses(net, floor)
        self.assertEqual(told, sum(told_sense(rows, triangle) for triangle in floor))
        self.assertEqual(turns(net, floor), sum(told_turn(rows, triangle, k) for triangle, k in told_border(floor)))
        self.assertEqual(told, turns(net, floor))
        self.assertEqual([type(told), type(turns(net, floor))], [int, int])
        return told

    def test_written_out(self):
        for rows, told in (([[0, 1], [2]], 1), ([[1, 2], [0]], 1), ([[2, 0], [1]], 1), ([[1, 0], [2]], -1),
                           ([[0, 2], [1]], -1), ([[2, 1], [0]], -1), ([[0, 1], [0]], 0), ([[2, 2], [2]], 0)):
            self.assertEqual(self.check(rows, [(0, 0, 0)]), told)

    def test_each_side_of_both_kinds(self):
        for a, b, c in itertools.product((0, 1, 2), repeat=3):
            self.check([[a, b], [c]], [(0, 0, 0)])
            self.check([[0, a, 0], [c, b], [0]], [(0, 0, 1)])

    def test_a_sum_of_many(self):
        # Every triangle is whole, those of one kind in one sense.
        net = Net(rows_of(12))
        ones = [triangle for triangle in told_triangles(12) if triangle[2] == 0]
        others = [triangle for triangle in told_triangles(12) if triangle[2] == 1]
        self.assertEqual([senses(net, ones), turns(net, ones)], [78, 78])
        self.assertEqual([senses(net, others), turns(net, others)], [-66, -66])
        self.assertEqual([senses(net, triangles(net)), turns(net, triangles(net))], [12, 12])

    def test_point_7_on_many_nets_and_floors(self):
        met = set()
        for size in SIZES:
            for seed in range(5):
                for rows in (chance_rows(size, seed), mixed_rows(size, seed), ruled_rows(size, seed)):
                    for floor in some_floors(size, seed):
                        met.add(self.check(rows, floor))
        self.assertTrue({-2, -1, 0, 1, 2} <= met)

    def test_every_floor_of_a_small_net(self):
        everything = told_triangles(3)
        for seed in range(3):
            rows = chance_rows(3, seed)
            for chosen in itertools.product((False, True), repeat=9):
                self.check(rows, list(itertools.compress(everything, chosen)))


class NothingKept(unittest.TestCase):
    def test_what_was_handed_in_stays_as_it_was(self):
        for size in (1, 2, 5, 12):
            net = Net(mixed_rows(size))
            for floor in some_floors(size, 1) + wrong_floors(size):
                before = copy.copy(floor)
                for asked in (is_floor,) + REFUSING:
                    try:
                        asked(net, floor)
                    except NoFloor:
                        pass
                    self.assertEqual(floor, before)
                    self.assertEqual(vars(net), {"size": size, "marks": mixed_rows(size)})

    def test_the_border_may_be_changed(self):
        net = Net(mixed_rows(4))
        for floor in some_floors(4, 2):
            told = border(net, floor)
            self.assertIsNot(told, border(net, floor))
            told.reverse()
            told.append(((9, 9, 9), 9))
            self.assertEqual(border(net, floor), told_border(floor))

    def test_a_later_change_of_the_floor_is_not_seen(self):
        net = Net(mixed_rows(4))
        floor = told_triangles(4)
        told = border(net, floor)
        floor.clear()
        self.assertEqual(told, told_border(told_triangles(4)))
        self.assertEqual(border(net, floor), [])
        self.assertEqual([senses(net, floor), turns(net, floor)], [0, 0])


if __name__ == "__main__":
    unittest.main()
