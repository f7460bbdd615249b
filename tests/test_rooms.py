"""Nets by the rule, and rooms: points 11 to 13 of the document and the interface of cornerdoors/rooms.py."""

import copy
import itertools
import unittest

from cornerdoors.errors import BadNet, NotRuled
from cornerdoors.floors import senses, turns
from cornerdoors.nets import Net, corners, triangles
from cornerdoors.rooms import joint, reached, ruled, settled
from told import (SIZES, chance_rows, places_of, rows_of, ruled_choices, ruled_rows, told_ends, told_ruled,
                  told_sense, told_triangles, told_walk)

SEEDS = range(12)


def unruled_rows(size, seed=0):
    """Ruled rows with one corner or one border mark put otherwise, in every way that breaks the rule."""
    for x, y in places_of(size):
        for value in (0, 1, 2):
            if value not in ruled_choices(size, x, y):
                rows = ruled_rows(size, seed)
                rows[y][x] = value
                yield rows


def told_reached(rows):
    floor = told_triangles(len(rows) - 1)
    for end in told_ends(rows, floor):
        if end[0] == "door":
            other = told_walk(rows, floor, end)[1]
            if other[0] == "whole":
                return other[1], (end[1], end[2])


def told_hand(x, y):
    # What x - y leaves when divided by three, counted by steps of three.
    rest = x - y
    while rest < 0:
        rest += 3
    while rest > 2:
        rest -= 3
    return rest


def told_joint(size, three):
    return rows_of(size, lambda x, y: three[told_hand(x, y)][y][x])


class RuledNets(unittest.TestCase):
    def test_written_out(self):
        self.assertIs(ruled(Net([[0, 1], [2]])), True)
        self.assertIs(ruled(Net([[0, 0, 1], [0, 1], [2]])), True)
        self.assertIs(ruled(Net([[0, 1, 1], [2, 2], [2]])), True)
        # The place in the middle bears what it likes.
        for value in (0, 1, 2):
            self.assertIs(ruled(Net([[0, 0, 0, 1], [0, value, 1], [0, 1], [2]])), True)

    def test_written_out_and_broken(self):
        for rows in ([[1, 1], [2]], [[2, 1], [2]], [[0, 0], [2]], [[0, 2], [2]], [[0, 1], [0]], [[0, 1], [1]],
                     [[0, 2, 1], [0, 1], [2]], [[0, 0, 1], [1, 1], [2]], [[0, 0, 1], [0, 0], [2]]):
            self.assertIs(ruled(Net(rows)), False)

    def test_every_net_of_the_sizes_1_and_2(self):
        for a, b, c in itertools.product((0, 1, 2), repeat=3):
            self.assertIs(ruled(Net([[a, b], [c]])), (a, b, c) == (0, 1, 2))
        met = 0
        for a, b, c, d, e, f in itertools.product((0, 1, 2), repeat=6):
            rows = [[a, b, c], [d, e], [f]]
            told = (a, c, f) == (0, 1, 2) and b != 2 and d != 1 and e != 0
            self.assertIs(ruled(Net(rows)), told)
            met += told
        self.assertEqual(met, 8)

    def test_ruled_nets_of_each_size(self):
        for size in SIZES:
            for seed in SEEDS:
                rows = ruled_rows(size, seed)
                self.assertTrue(told_ruled(rows))
                self.assertIs(ruled(Net(rows)), True)

    def test_one_corner_or_border_mark_put_otherwise(self):
        for size in SIZES:
            for rows in unruled_rows(size):
                self.assertFalse(told_ruled(rows))
                self.assertIs(ruled(Net(rows)), False)

    def test_any_mark_put_as_the_rule_lets_it(self):
        for size in SIZES:
            for x, y in places_of(size):
                for value in ruled_choices(size, x, y):
                    rows = ruled_rows(size, 1)
                    rows[y][x] = value
                    self.assertIs(ruled(Net(rows)), True)

    def test_others(self):
        for size in SIZES:
            for seed in SEEDS:
                rows = chance_rows(size, seed)
                self.assertIs(ruled(Net(rows)), told_ruled(rows))
            for value in (0, 1, 2):
                self.assertIs(ruled(Net(rows_of(size, lambda x, y: value))), False)


class ReachedTriangles(unittest.TestCase):
    def test_written_out(self):
        self.assertEqual(reached(Net([[0, 1], [2]])), ((0, 0, 0), ((0, 0, 0), 0)))
        self.assertEqual(reached(Net([[0, 1, 1], [0, 1], [2]])), ((0, 1, 0), ((0, 0, 0), 0)))
        self.assertEqual(reached(Net([[0, 0, 1], [0, 2], [2]])), ((1, 0, 0), ((1, 0, 0), 0)))

    def test_a_door_before_it_may_lead_to_a_door(self):
        # The doors (0, 0, 0) 0 and (1, 0, 0) 0 are partners: one goes round the place (1, 0).
        rows = [[0, 1, 0, 1], [0, 0, 1], [0, 1], [2]]
        self.assertEqual(told_walk(rows, told_triangles(3), ("door", (0, 0, 0), 0))[1], ("door", (1, 0, 0), 0))
        self.assertEqual(reached(Net(rows)), ((0, 2, 0), ((2, 0, 0), 0)))

    def test_the_first_of_several_doors(self):
        met = 0
        for size in SIZES:
            for seed in SEEDS:
                rows = ruled_rows(size, seed)
                floor = told_triangles(size)
                found = []
                for end in told_ends(rows, floor):
                    if end[0] == "door" and told_walk(rows, floor, end)[1][0] == "whole":
                        found.append((told_walk(rows, floor, end)[1][1], end[1:]))
                self.assertEqual(reached(Net(rows)), found[0])
                met += len(found) > 1
        self.assertGreater(met, 5)

    def test_many_nets(self):
        for size in SIZES:
            for seed in SEEDS:
                rows = ruled_rows(size, seed)
                told = reached(Net(rows))
                self.assertEqual(told, told_reached(rows))
                whole, side = told
                self.assertNotEqual(told_sense(rows, whole), 0)
                self.assertEqual([type(told), type(whole), type(side), type(side[0]), type(side[1])],
                                 [tuple, tuple, tuple, tuple, int])

    def test_every_ruled_net_of_size_3(self):
        choices = [ruled_choices(3, x, y) for y in range(4) for x in range(4 - y)]
        met = 0
        for marks in itertools.product(*choices):
            source = iter(marks)
            rows = [[next(source) for x in range(4 - y)] for y in range(4)]
            self.assertEqual(reached(Net(rows)), told_reached(rows))
            met += 1
        self.assertEqual(met, 3 * 2 ** 6)

    def test_a_net_that_is_not_ruled(self):
        for size in SIZES:
            for rows in unruled_rows(size):
                with self.assertRaises(NotRuled):
                    reached(Net(rows))

    def test_other_nets(self):
        for size in SIZES:
            for seed in SEEDS:
                rows = chance_rows(size, seed)
                if not told_ruled(rows):
                    with self.assertRaises(NotRuled):
                        reached(Net(rows))

    def test_the_sum_of_the_senses_is_1(self):
        for size in SIZES:
            for seed in SEEDS:
                net = Net(ruled_rows(size, seed))
                self.assertEqual(senses(net, triangles(net)), 1)
                self.assertEqual(turns(net, triangles(net)), 1)


class JointNets(unittest.TestCase):
    def test_hands_written_out(self):
        # Rows by the rule that tell the three nets apart at each place with a choice of the joint net.
        size = 6
        for hand in range(3):
            three = [ruled_rows(size, seed) for seed in range(3)]
            others = [ruled_rows(size, seed + 20) for seed in range(3)]
            others[hand] = three[hand]
            one = joint([Net(rows) for rows in three]).marks
            other = joint([Net(rows) for rows in others]).marks
            for x, y in {0: [(0, 0), (1, 1), (3, 0), (0, 3), (1, 4), (2, 2)],
                         1: [(1, 0), (0, 2), (2, 1), (4, 0), (0, 5), (1, 3)],
                         2: [(2, 0), (0, 1), (1, 2), (3, 1), (0, 4), (5, 0)]}[hand]:
                self.assertEqual(one[y][x], three[hand][y][x])
                self.assertEqual(other[y][x], three[hand][y][x])

    def test_each_hand_by_itself(self):
        # One hand says 1 wherever it may, the others don't; so each place shows its hand.
        size = 12
        inner = [place for place in places_of(size) if all(place) and sum(place) < size]
        for hand in range(3):
            three = []
            for each in range(3):
                value = 1 if each == hand else 2
                rows = ruled_rows(size, each)
                for x, y in inner:
                    rows[y][x] = value
                three.append(Net(rows))
            told = joint(three)
            for x, y in inner:
                self.assertEqual(told.marks[y][x], 1 if told_hand(x, y) == hand else 2)

    def test_many_nets(self):
        for size in SIZES:
            for seed in SEEDS:
                three = [ruled_rows(size, (seed, hand)) for hand in range(3)]
                told = joint([Net(rows) for rows in three])
                self.assertIs(type(told), Net)
                self.assertEqual(told.size, size)
                self.assertEqual(told.marks, told_joint(size, three))
                self.assertIs(ruled(told), True)

    def test_one_net_three_times(self):
        for size in SIZES:
            net = Net(ruled_rows(size, 3))
            told = joint([net, net, net])
            self.assertEqual(told.marks, net.marks)
            self.assertIsNot(told, net)

    def test_the_corners_of_each_triangle_belong_to_all_hands(self):
        net = Net(ruled_rows(12, 0))
        for triangle in triangles(net):
            self.assertEqual(sorted(told_hand(x, y) for x, y in corners(net, triangle)), [0, 1, 2])


class RefusedNets(unittest.TestCase):
    def refused(self, nets, error):
        for asked in (joint, settled):
            with self.assertRaises(error):
                asked(nets)

    def test_unlike_sizes_at_each_place(self):
        for size in SIZES:
            for other in SIZES:
                for at in range(3):
                    nets = [Net(ruled_rows(size, hand)) for hand in range(3)]
                    nets[at] = Net(ruled_rows(other, at))
                    if other != size:
                        self.refused(nets, BadNet)

    def test_three_unlike_sizes(self):
        for sizes in itertools.permutations((2, 3, 4)):
            self.refused([Net(ruled_rows(size, 0)) for size in sizes], BadNet)

    def test_unlike_sizes_come_before_unruled_nets(self):
        for sizes in ((2, 3, 3), (3, 2, 3), (3, 3, 2), (1, 2, 12), (12, 11, 12)):
            for broken in itertools.product((False, True), repeat=3):
                nets = []
                for size, wrong in zip(sizes, broken):
                    nets.append(Net(rows_of(size, lambda x, y: 1) if wrong else ruled_rows(size, 0)))
                self.refused(nets, BadNet)

    def test_unruled_nets_at_each_place(self):
        for size in SIZES:
            for rows in unruled_rows(size):
                for at in range(3):
                    nets = [Net(ruled_rows(size, hand)) for hand in range(3)]
                    nets[at] = Net(rows)
                    self.refused(nets, NotRuled)

    def test_a_net_not_ruled_at_a_place_of_another_hand(self):
        # The joint net would be ruled, as the bad mark isn't in it.
        three = [[[0, 0, 1], [0, 1], [2]] for hand in range(3)]
        three[0][0][1] = 2
        self.assertTrue(told_ruled(told_joint(2, three)))
        self.refused([Net(rows) for rows in three], NotRuled)

    def test_several_unruled_nets(self):
        for size in SIZES:
            for broken in itertools.product((False, True), repeat=3):
                nets = [Net(rows_of(size, lambda x, y: 0) if wrong else ruled_rows(size, 0)) for wrong in broken]
                if any(broken):
                    self.refused(nets, NotRuled)


class SettledRooms(unittest.TestCase):
    def test_written_out(self):
        net = Net([[0, 1], [2]])
        # (0, 0) belongs to hand 0, (1, 0) to hand 1, (0, 1) to hand 2.
        self.assertEqual(settled([net, net, net]), [((0, 0), 0), ((1, 0), 1), ((0, 1), 2)])
        # The whole triangle has the corners (0, 1), (1, 1), (0, 2), of the hands 2, 0, 1.
        net = Net([[0, 1, 1], [0, 1], [2]])
        self.assertEqual(settled([net, net, net]), [((1, 1), 1), ((0, 2), 2), ((0, 1), 0)])

    def test_many_nets(self):
        for size in SIZES:
            for seed in SEEDS:
                three = [ruled_rows(size, (seed, hand)) for hand in range(3)]
                told = settled([Net(rows) for rows in three])
                self.assertIs(type(told), list)
                self.assertEqual(len(told), 3)
                for hand, ((x, y), room) in enumerate(told):
                    self.assertEqual(told_hand(x, y), hand)
                    self.assertEqual(room, three[hand][y][x])
                    self.assertEqual([type(told[hand]), type(told[hand][0]), type(room)], [tuple, tuple, int])
                self.assertEqual(sorted(room for place, room in told), [0, 1, 2])
                whole = reached(joint([Net(rows) for rows in three]))[0]
                self.assertEqual(whole, told_reached(told_joint(size, three))[0])
                self.assertEqual(sorted(place for place, room in told), sorted(corners(Net(three[0]), whole)))


class NothingKept(unittest.TestCase):
    def test_what_was_handed_in_stays_as_it_was(self):
        lists = [[ruled_rows(5, hand) for hand in range(3)],
                 [ruled_rows(5, 0), ruled_rows(4, 0), ruled_rows(5, 0)],
                 [ruled_rows(5, 0), ruled_rows(5, 1), chance_rows(5, 1)]]
        for three in lists:
            nets = [Net(rows) for rows in three]
            same = list(nets)
            before = copy.deepcopy(three)
            asked = [lambda: joint(nets), lambda: settled(nets), lambda: [ruled(net) for net in nets],
                     lambda: [reached(net) for net in nets]]
            for ask in asked:
                try:
                    ask()
                except (BadNet, NotRuled):
                    pass
                self.assertEqual([id(net) for net in nets], [id(net) for net in same])
                for net, rows in zip(nets, before, strict=True):
                    self.assertEqual(vars(net), {"size": len(rows) - 1, "marks": rows})

    def test_the_joint_net_has_lists_of_its_own(self):
        for repeated in (False, True):
            nets = [Net(ruled_rows(4, 0 if repeated else hand)) for hand in range(3)]
            told = [joint(nets), joint(nets)]
            lists = []
            for net in nets + told:
                lists.append(net.marks)
                lists.extend(net.marks)
            self.assertEqual(len({id(each) for each in lists}), len(lists))

    def test_a_later_change_of_the_list_is_not_seen(self):
        three = [ruled_rows(4, hand) for hand in range(3)]
        nets = [Net(rows) for rows in three]
        told = joint(nets)
        rooms = settled(nets)
        before = list(rooms)
        nets.clear()
        self.assertEqual(told.marks, told_joint(4, three))
        self.assertEqual(rooms, before)

    def test_what_was_told_may_be_changed(self):
        nets = [Net(ruled_rows(4, hand)) for hand in range(3)]
        marks = copy.deepcopy(joint(nets).marks)
        rooms = list(settled(nets))
        settled(nets).clear()
        joint(nets).marks.clear()
        self.assertEqual(joint(nets).marks, marks)
        self.assertEqual(settled(nets), rooms)


if __name__ == "__main__":
    unittest.main()
