"""Halls and days: is_hall, leavings, last, waits, held_by ([5], [6], [7])."""

import unittest

from movedminutes.halls import held_by, is_hall, last, leavings, waits
from tests.samples import WRONG_HALLS, days_up_to, hall_days, raised_leavings, sample_halls, small_halls


class TestIsHall(unittest.TestCase):
    def test_halls_of_every_size(self):
        for hall in sample_halls():
            self.assertIs(is_hall(hall), True)

    def test_edges(self):
        for hall in (((0,),), ((0,) * 8,) * 8, ((10 ** 40, 0),), ((0,),) * 8, ((1,) * 8,)):
            self.assertIs(is_hall(hall), True)

    def test_what_is_no_hall(self):
        for at, thing in enumerate(WRONG_HALLS):
            with self.subTest(at=at):
                self.assertIs(is_hall(thing), False)

    def test_one_wrong_cell_anywhere(self):
        for wrong in (-1, True, False, 1.0, None, "1", (1,)):
            for i in range(3):
                for k in range(3):
                    rows = [[1, 2, 3], [4, 5, 6], [7, 8, 9]]
                    rows[i][k] = wrong
                    self.assertIs(is_hall(tuple(map(tuple, rows))), False)

    def test_one_wrong_row_anywhere(self):
        for wrong in ((), (1,), (1, 2, 3), [1, 2], None, 1, (1, True)):
            for i in range(4):
                rows = [(1, 2)] * 4
                rows[i] = wrong
                self.assertIs(is_hall(tuple(rows)), False)


class TestLeavings(unittest.TestCase):
    def test_told_by_hand(self):
        hall = ((3, 1, 2), (2, 4, 1))
        self.assertEqual(leavings(hall, [0, 1, 9]), [[3, 4, 11], [5, 9, 12]])
        self.assertEqual(last(hall, [0, 1, 9]), [5, 9, 12])
        self.assertEqual(waits(hall, [0, 1, 9]), [[0, 2, 0], [0, 1, 0]])

    def test_against_raised_times(self):
        for hall, day in hall_days():
            left = raised_leavings(hall, day)
            self.assertEqual(leavings(hall, day), left)
            self.assertEqual(last(hall, day), left[-1])

    def test_all_small_halls_and_days(self):
        for counters, customers in ((1, 1), (1, 3), (2, 2), (3, 1)):
            for hall in small_halls(counters, customers, 2):
                for day in days_up_to(customers, 3):
                    self.assertEqual(leavings(hall, day), raised_leavings(hall, day))

    def test_one_counter(self):
        self.assertEqual(leavings(((2, 3, 0),), [1, 1, 9]), [[3, 6, 9]])
        self.assertEqual(waits(((2, 3, 0),), [1, 1, 9]), [[0, 2, 0]])

    def test_one_customer(self):
        self.assertEqual(leavings(((2,), (0,), (5,)), [4]), [[6], [6], [11]])
        self.assertEqual(waits(((2,), (0,), (5,)), [4]), [[0], [0], [0]])

    def test_lists_of_numbers_are_told(self):
        for hall, day in hall_days():
            for told in (leavings(hall, day), waits(hall, day)):
                self.assertIs(type(told), list)
                self.assertEqual(len(told), len(hall))
                for row in told:
                    self.assertIs(type(row), list)
                    self.assertTrue(all(type(time) is int for time in row))
            self.assertIs(type(last(hall, day)), list)


class TestWaits(unittest.TestCase):
    def test_who_comes_as_the_counter_is_free_does_not_wait(self):
        self.assertEqual(waits(((4, 1),), [0, 4]), [[0, 0]])
        self.assertEqual(waits(((4, 1),), [0, 3]), [[0, 1]])
        self.assertEqual(waits(((4, 1),), [0, 5]), [[0, 0]])

    def test_against_raised_times(self):
        for hall, day in hall_days():
            left = raised_leavings(hall, day)
            told = waits(hall, day)
            for i in range(len(hall)):
                for k in range(len(day)):
                    came = left[i - 1][k] if i else day[k]
                    free = left[i][k - 1] if k else 0
                    self.assertEqual(told[i][k], max(0, free - came))

    def test_waits_and_minutes_fill_the_time(self):
        for hall, day in hall_days():
            told = waits(hall, day)
            for k, leaves in enumerate(last(hall, day)):
                within = sum(told[i][k] + hall[i][k] for i in range(len(hall)))
                self.assertEqual(day[k] + within, leaves)


class TestHeldBy(unittest.TestCase):
    def hold(self, hall, day, customer):
        """Check what holds a customer by the times, step by step, so that only one list passes."""
        chain = held_by(hall, day, customer)
        left = raised_leavings(hall, day)
        self.assertIs(type(chain), list)
        self.assertTrue(all(type(cell) is tuple for cell in chain))
        self.assertEqual(chain[-1], (len(hall) - 1, customer))
        start, comer = chain[0]
        self.assertEqual(start, 0)
        self.assertTrue(comer == 0 or left[0][comer - 1] <= day[comer])
        self.assertEqual(left[-1][customer], day[comer] + sum(hall[i][k] for i, k in chain))
        for (i, k), (counter, behind) in zip(chain, chain[1:]):
            self.assertEqual(left[i][k], left[counter][behind] - hall[counter][behind])
            if i == counter:
                self.assertEqual(k, behind - 1)
                self.assertTrue(i > 0 or left[0][k] > day[behind])
                self.assertTrue(i == 0 or left[i][k] >= left[i - 1][behind])
            else:
                self.assertEqual((i, k), (counter - 1, behind))
                self.assertTrue(k == 0 or left[counter][k - 1] < left[i][k])

    def test_sample_halls(self):
        for hall, day in hall_days():
            for customer in range(len(day)):
                self.hold(hall, day, customer)

    def test_all_small_halls_and_days(self):
        for counters, customers in ((1, 3), (2, 2), (3, 1)):
            for hall in small_halls(counters, customers, 2):
                for day in days_up_to(customers, 3):
                    for customer in range(customers):
                        self.hold(hall, day, customer)

    def test_told_by_hand(self):
        hall = ((3, 1, 2), (2, 4, 1))
        self.assertEqual(held_by(hall, [0, 1, 9], 0), [(0, 0), (1, 0)])
        self.assertEqual(held_by(hall, [0, 1, 9], 1), [(0, 0), (1, 0), (1, 1)])
        self.assertEqual(held_by(hall, [0, 1, 9], 2), [(0, 2), (1, 2)])

    def test_of_two_who_end_at_once_the_customer_ahead(self):
        self.assertEqual(held_by(((2, 3), (3, 1)), [0, 0], 1), [(0, 0), (1, 0), (1, 1)])
        self.assertEqual(held_by(((2, 4), (3, 1)), [0, 0], 1), [(0, 0), (0, 1), (1, 1)])
        self.assertEqual(held_by(((0, 0), (0, 0)), [0, 0], 1), [(0, 0), (1, 0), (1, 1)])

    def test_at_the_first_counter_who_need_not_wait_begins(self):
        self.assertEqual(held_by(((4, 1),), [0, 3], 1), [(0, 0), (0, 1)])
        self.assertEqual(held_by(((4, 1),), [0, 4], 1), [(0, 1)])
        self.assertEqual(held_by(((4, 1),), [0, 5], 1), [(0, 1)])

    def test_one_counter_and_one_customer(self):
        self.assertEqual(held_by(((1, 1, 1),), [0, 0, 0], 2), [(0, 0), (0, 1), (0, 2)])
        self.assertEqual(held_by(((1,), (1,)), [6], 0), [(0, 0), (1, 0)])
        self.assertEqual(held_by(((0,),), [0], 0), [(0, 0)])


if __name__ == "__main__":
    unittest.main()
