"""Towers: towers, hall_of ([20], [21])."""

import itertools
import random
import unittest

from movedminutes.covers import covered
from movedminutes.errors import NoTowers
from movedminutes.moves import back, can_move, move, moved
from movedminutes.sums import to_first, to_last
from movedminutes.towers import hall_of, towers
from tests.one_by_one import shapes_grown, towers_of_covers, turned
from tests.samples import KINDS, all_minutes, noughts, sample_halls, small, small_halls
from tests.test_moves import halls_at_random, neighbours
from tests.tower_samples import (
    BY_COUNTERS, BY_CUSTOMERS, all_two_towers, length_of, two_towers_at_random,
)


class TestTowers(unittest.TestCase):
    def test_by_covered(self):
        for hall in sample_halls():
            self.assertEqual(towers(hall), towers_of_covers(hall, covered))

    def test_all_small_halls_by_covered(self):
        for hall in small_halls(2, 2, 2) + small_halls(3, 2, 1) + small_halls(2, 3, 1):
            self.assertEqual(towers(hall), towers_of_covers(hall, covered))

    def test_grown_cell_by_cell(self):
        for hall in sample_halls():
            shapes = shapes_grown(hall)
            counters, customers = len(hall), len(hall[0])
            longest = min(counters, customers)
            by_customers = [tuple(shapes[counters, k + 1][:length_of(k, longest)]) for k in range(customers)]
            by_counters = [tuple(shapes[i + 1, customers][:length_of(i, longest)]) for i in range(counters)]
            self.assertEqual(towers(hall), (by_customers, by_counters))

    def test_lists_of_tuples_with_one_last_row(self):
        for hall in sample_halls():
            told = towers(hall)
            self.assertIs(type(told), tuple)
            self.assertEqual([len(tower) for tower in told], [len(hall[0]), len(hall)])
            for tower in told:
                self.assertIs(type(tower), list)
                for row in tower:
                    self.assertIs(type(row), tuple)
                    self.assertEqual(list(row), sorted(row, reverse=True))
            self.assertEqual(told[0][-1], told[1][-1])
            self.assertEqual(sum(told[0][-1]), all_minutes(hall))

    def test_of_the_hall_turned_about_they_change_places(self):
        for hall in sample_halls():
            self.assertEqual(towers(turned(hall)), towers(hall)[::-1])

    def test_told_by_hand(self):
        self.assertEqual(towers(((3, 1, 2), (2, 4, 1))), (BY_CUSTOMERS, BY_COUNTERS))
        self.assertEqual(towers(((3, 0, 4),)), ([(3,), (3,), (7,)], [(7,)]))
        self.assertEqual(towers(((3,), (0,), (4,))), ([(7,)], [(3,), (3,), (7,)]))
        self.assertEqual(towers(((0,),)), ([(0,)], [(0,)]))
        self.assertEqual(towers(((0, 1), (1, 0))), ([(1,), (1, 1)], [(1,), (1, 1)]))
        self.assertEqual(towers(((0, 0), (0, 0), (0, 0))), ([(0,), (0, 0)], [(0,), (0, 0), (0, 0)]))

    def test_rows_no_longer_one_longer(self):
        by_customers, by_counters = towers(((1, 2, 3, 4), (5, 6, 7, 8)))
        self.assertEqual([len(row) for row in by_customers], [1, 2, 2, 2])
        self.assertEqual([len(row) for row in by_counters], [1, 2])

    def test_no_move_changes_the_tower_by_customers(self):
        chance = random.Random(1)
        for hall, counter in neighbours(sample_halls()):
            on, off = can_move(hall, counter)
            for many in (on, -off, chance.randint(-off, on)):
                self.assertEqual(towers(moved(hall, counter, many))[0], towers(hall)[0])
        for hall in sample_halls():
            self.assertEqual(towers(to_first(hall))[0], towers(hall)[0])
            self.assertEqual(towers(to_last(hall))[0], towers(hall)[0])

    def hold_one_number(self, before, behind, counter, by):
        """Hold that of two towers by counters one number differs, in the row of the former counter."""
        for row, (told, told_behind) in enumerate(zip(before, behind)):
            apart = [b - a for a, b in zip(told, told_behind) if a != b]
            self.assertEqual(apart, [by] if row == counter else [])

    def test_each_single_move_changes_that_by_counters_in_one_row_by_one(self):
        for hall, counter in neighbours(sample_halls() + list(halls_at_random(2, 200, [noughts, small]))):
            before = towers(hall)[1]
            on, off = move(hall, counter), back(hall, counter)
            if on is not None:
                self.hold_one_number(before, towers(on)[1], counter, -1)
            if off is not None:
                self.hold_one_number(before, towers(off)[1], counter, 1)


class TestHallOf(unittest.TestCase):
    def test_it_is_the_hall_of_its_towers(self):
        for hall in sample_halls():
            self.assertEqual(hall_of(*towers(hall)), hall)

    def test_all_small_halls(self):
        for hall in small_halls(2, 2, 3) + small_halls(3, 2, 1) + small_halls(2, 3, 2) + small_halls(3, 3, 1):
            self.assertEqual(hall_of(*towers(hall)), hall)

    def test_any_two_towers_with_one_last_row(self):
        chance = random.Random(3)
        for customers in range(1, 9):
            for counters in range(1, 9):
                for kind in KINDS + [noughts, small]:
                    told = two_towers_at_random(chance, customers, counters, kind)
                    hall = hall_of(*told)
                    self.assertEqual((len(hall), len(hall[0])), (counters, customers))
                    self.assertTrue(all(minutes >= 0 for row in hall for minutes in row))
                    self.assertEqual(towers(hall), told)
                    self.assertEqual(towers_of_covers(hall, covered), told)

    def test_there_is_just_one_for_any_two_small_towers(self):
        for customers, counters, most in ((1, 1, 5), (1, 4, 3), (4, 1, 3), (2, 2, 3), (3, 2, 3), (2, 3, 3), (3, 3, 2)):
            found = {}
            for told in all_two_towers(customers, counters, most):
                hall = hall_of(*told)
                self.assertNotIn(hall, found)
                found[hall] = told
                self.assertEqual(towers(hall), told)
            for hall in small_halls(counters, customers, 1):
                if all_minutes(hall) <= most:
                    self.assertIn(hall, found)

    def test_told_by_hand(self):
        self.assertEqual(hall_of(BY_CUSTOMERS, BY_COUNTERS), ((3, 1, 2), (2, 4, 1)))
        self.assertEqual(hall_of([(3,), (3,), (7,)], [(7,)]), ((3, 0, 4),))
        self.assertEqual(hall_of([(7,)], [(3,), (3,), (7,)]), ((3,), (0,), (4,)))
        self.assertEqual(hall_of([(0,)], [(0,)]), ((0,),))
        self.assertEqual(hall_of([(1,), (1, 1)], [(1,), (1, 1)]), ((0, 1), (1, 0)))
        self.assertEqual(hall_of([(1,), (2, 0)], [(1,), (2, 0)]), ((1, 0), (0, 1)))
        self.assertEqual(hall_of([(0,)] * 8, [(0,)]), ((0,) * 8,))

    def test_greater_than_fifteen_figures(self):
        many = 10 ** 40
        hall = ((many, 0, 1), (many + 1, many, 2))
        self.assertEqual(hall_of(*towers(hall)), hall)

    def is_taken(self, *told):
        try:
            hall_of(*told)
        except NoTowers:
            return False
        return True

    def test_just_towers_of_some_hall_are_taken(self):
        numbers = range(-1, 3)
        shapes = [((1,), (1,)), ((1, 2), (1,)), ((1, 1), (1,)), ((1, 2), (1, 2)), ((1, 1), (1, 1)), ((2, 2), (1, 2))]
        for shape in shapes:
            right = [told for told in all_two_towers(len(shape[0]), len(shape[1]), 2)]
            sides = [
                [list(tower) for tower in itertools.product(
                    *(list(itertools.product(numbers, repeat=length)) for length in side)
                )]
                for side in shape
            ]
            for told in itertools.product(*sides):
                self.assertIs(self.is_taken(*told), told in right)

    def test_a_third_row_as_long_as_the_second(self):
        right = [by_customers for by_customers, _ in all_two_towers(3, 2, 2) if by_customers[-1] == (2, 1)]
        for told in itertools.product(range(-1, 4), repeat=3):
            by_customers = [told[:1], told[1:], (2, 1)]
            self.assertIs(self.is_taken(by_customers, [(1,), (2, 1)]), by_customers in right)
            self.assertIs(self.is_taken([(1,), (2, 1)], by_customers), by_customers in right)

    def test_rows_of_other_lengths(self):
        lengths = itertools.product(range(4), repeat=3)
        for shape in lengths:
            tower = [(0,) * length for length in shape]
            for other in ([(0,)], [(0,), (0, 0)], [(0,), (0, 0), (0, 0, 0)], [(0,), (0, 0), (0, 0, 0), (0, 0, 0)]):
                right = [min(row + 1, len(other)) for row in range(3)]
                taken = list(shape) == right and len(other[-1]) == right[-1]
                self.assertIs(self.is_taken(tower, other), taken)
                self.assertIs(self.is_taken(other, tower), taken)

    def test_no_rows(self):
        for told in (([], []), ([], [()]), ([()], []), ([()], [()]), ([], [(0,)]), ([(0,)], [])):
            self.assertFalse(self.is_taken(*told))

    def test_eight_rows_and_nine(self):
        eight = [(0,) * (row + 1) for row in range(8)]
        nine = [(0,) * (row + 1) for row in range(9)]
        self.assertEqual(hall_of(eight, eight), ((0,) * 8,) * 8)
        for told in ((nine, nine), (eight, nine), (nine, eight), (eight + eight[-1:], eight), (eight, [])):
            self.assertFalse(self.is_taken(*told))
        self.assertFalse(self.is_taken([(0,)] * 9, [(0,)]))


if __name__ == "__main__":
    unittest.main()
