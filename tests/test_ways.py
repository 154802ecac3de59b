"""Ways: greatest, best_way, alike, parting, spare ([9], [10])."""

import random
import unittest

from movedminutes.halls import last
from movedminutes.ways import alike, best_way, greatest, parting, spare
from tests.samples import (
    all_minutes, days_up_to, hall_days, hall_of_kind, listed_best_way, listed_greatest, noughts, pairs,
    sample_halls, small, small_halls, with_more, worth,
)


class TestGreatest(unittest.TestCase):
    def test_against_all_ways_one_by_one(self):
        for hall in sample_halls():
            for first, k in pairs(hall):
                self.assertEqual(greatest(hall, first, k), listed_greatest(hall, first, k))

    def test_one_counter(self):
        hall = ((5, 0, 7),)
        self.assertEqual(greatest(hall, 0, 2), 12)
        self.assertEqual(greatest(hall, 1, 1), 0)
        self.assertEqual(best_way(hall, 0, 2), [(0, 0), (0, 1), (0, 2)])

    def test_one_customer(self):
        hall = ((5,), (0,), (7,))
        self.assertEqual(greatest(hall, 0, 0), 12)
        self.assertEqual(best_way(hall, 0, 0), [(0, 0), (1, 0), (2, 0)])

    def test_all_leave_by_the_greatest_worths(self):
        for hall, day in hall_days():
            for k, leaves in enumerate(last(hall, day)):
                self.assertEqual(leaves, max(day[j] + greatest(hall, j, k) for j in range(k + 1)))


class TestBestWay(unittest.TestCase):
    def test_against_all_ways_one_by_one(self):
        for hall in sample_halls():
            for first, k in pairs(hall):
                self.assertEqual(best_way(hall, first, k), listed_best_way(hall, first, k))

    def test_many_of_like_worth(self):
        chance = random.Random(9)
        for _ in range(60):
            hall = hall_of_kind(chance, chance.randint(2, 5), chance.randint(2, 5), noughts)
            for first, k in pairs(hall):
                self.assertEqual(best_way(hall, first, k), listed_best_way(hall, first, k))

    def test_the_least_of_like_worth(self):
        self.assertEqual(best_way(((0, 0), (0, 0)), 0, 1), [(0, 0), (0, 1), (1, 1)])
        self.assertEqual(best_way(((1, 2), (2, 1)), 0, 1), [(0, 0), (0, 1), (1, 1)])
        self.assertEqual(best_way(((1, 2), (3, 1)), 0, 1), [(0, 0), (1, 0), (1, 1)])
        self.assertEqual(
            best_way(((0, 0, 1), (0, 0, 0), (1, 0, 0)), 0, 2), [(0, 0), (0, 1), (0, 2), (1, 2), (2, 2)]
        )

    def test_a_list_of_tuples_of_the_greatest_worth(self):
        for hall in sample_halls():
            for first, k in pairs(hall):
                way = best_way(hall, first, k)
                self.assertIs(type(way), list)
                self.assertTrue(all(type(cell) is tuple for cell in way))
                self.assertEqual(worth(hall, way), greatest(hall, first, k))


def alike_pairs():
    """Halls that no day tells apart, by minutes that may go from a counter to the next."""
    return [
        (((2, 1), (3, 4)), ((1, 1), (4, 4))),
        (((5,), (2,)), ((0,), (7,))),
        (((5,), (2,)), ((7,),)),
        (((3, 0, 2),), ((3, 0, 2), (0, 0, 0))),
        (((3, 0, 2), (1, 1, 1)), ((3, 0, 2), (0, 0, 0), (1, 1, 1))),
        (((0,) * 8,) * 8, ((0,) * 8,)),
        (((4, 4), (4, 4)), ((4, 4), (4, 4))),
    ]


def days_of(hall, latest):
    return days_up_to(len(hall[0]), latest)


class TestAlike(unittest.TestCase):
    def hold_all_pairs(self, halls, latest):
        """Hold alike and parting of each two halls against all days up to a time late enough."""
        told = [[last(hall, day) for day in days_of(hall, latest)] for hall in halls]
        for hall, leaves in zip(halls, told):
            for other, others in zip(halls, told):
                self.assertIs(alike(hall, other), leaves == others)
                self.assertEqual(parting(hall, other) is None, leaves == others)

    def test_all_small_halls_on_all_days(self):
        self.hold_all_pairs(small_halls(1, 2, 2) + small_halls(2, 2, 1) + small_halls(3, 2, 1), 6)
        self.hold_all_pairs(small_halls(2, 2, 2), 8)
        self.hold_all_pairs(small_halls(1, 3, 1) + small_halls(2, 3, 1), 5)

    def test_alike_with_other_many_counters_and_as_many(self):
        for hall, other in alike_pairs():
            self.assertIs(alike(hall, other), True)
            self.assertIs(alike(other, hall), True)
            self.assertIsNone(parting(hall, other))
            self.assertIsNone(parting(other, hall))

    def test_a_hall_is_alike_to_itself_and_with_a_counter_of_noughts(self):
        for hall in sample_halls():
            self.assertIs(alike(hall, hall), True)
            self.assertIsNone(parting(hall, hall))
            if len(hall) < 8:
                for at in range(len(hall) + 1):
                    longer = hall[:at] + ((0,) * len(hall[0]),) + hall[at:]
                    self.assertIs(alike(hall, longer), True)

    def test_just_where_all_greatest_worths_are(self):
        for hall in sample_halls():
            for other in sample_halls()[::17]:
                if len(hall[0]) == len(other[0]):
                    same = all(greatest(hall, j, k) == greatest(other, j, k) for j, k in pairs(hall))
                    self.assertIs(alike(hall, other), same)

    def test_on_every_day_nobody_has_any_to_spare(self):
        for hall in sample_halls()[::5]:
            for i in range(len(hall)):
                for k in range(len(hall[0])):
                    self.assertIs(alike(hall, with_more(hall, i, k, 1)), False)


class TestParting(unittest.TestCase):
    def hold(self, hall, other):
        """Hold a told parting against the least pair of other worth, and really go through it."""
        apart = [(j, k) for j, k in pairs(hall) if listed_greatest(hall, j, k) != listed_greatest(other, j, k)]
        told = parting(hall, other)
        if not apart:
            self.assertIsNone(told)
            return
        self.assertIs(type(told), tuple)
        day, customer = told
        self.assertIs(type(day), list)
        first, k = min(apart)
        late = all_minutes(hall) + all_minutes(other)
        self.assertEqual(day, [0 if c < first else late for c in range(len(hall[0]))])
        self.assertEqual(customer, k)
        self.assertNotEqual(last(hall, day)[customer], last(other, day)[customer])

    def test_told_by_hand(self):
        self.assertEqual(parting(((1, 2),), ((1, 3),)), ([7, 7], 1))
        self.assertEqual(parting(((1, 0), (0, 1)), ((0, 1), (1, 0))), ([4, 4], 1))
        self.assertEqual(parting(((1,),), ((0,), (0,))), ([1], 0))

    def test_all_ahead_come_at_nought(self):
        hall, other = ((0, 2), (3, 1)), ((0, 0), (3, 1))
        self.assertEqual([greatest(hall, *pair) for pair in pairs(hall)], [3, 4, 3])
        self.assertEqual([greatest(other, *pair) for pair in pairs(other)], [3, 4, 1])
        self.assertEqual(parting(hall, other), ([0, 10], 1))

    def test_sample_halls(self):
        for hall in sample_halls():
            for other in sample_halls()[::17]:
                if len(hall[0]) == len(other[0]):
                    self.hold(hall, other)

    def test_halls_that_hardly_differ(self):
        chance = random.Random(10)
        for _ in range(300):
            hall = hall_of_kind(chance, chance.randint(1, 4), chance.randint(1, 6), small)
            i, k = chance.randrange(len(hall)), chance.randrange(len(hall[0]))
            self.hold(hall, with_more(hall, i, k, 1))
            if len(hall) > 1 and hall[i][k]:
                moved = with_more(with_more(hall, i, k, -1), i - 1, k, 1)
                self.hold(hall, moved)

    def test_least_pairs_of_every_sort_are_met(self):
        chance = random.Random(11)
        met = set()
        for _ in range(3000):
            hall = hall_of_kind(chance, 2, 3, small)
            told = parting(hall, hall_of_kind(chance, 2, 3, small))
            if told is not None:
                met.add((told[0].count(0), told[1]))
        self.assertLessEqual({(0, 0), (0, 1), (0, 2), (1, 1), (1, 2), (2, 2)}, met)


class TestSpare(unittest.TestCase):
    def hold(self, hall, counter, customer):
        minutes = spare(hall, counter, customer)
        self.assertIs(type(minutes), int)
        self.assertGreaterEqual(minutes, 0)
        for time in (0, 5):
            day = [time] * len(hall[0])
            leaves = last(hall, day)
            self.assertEqual(last(with_more(hall, counter, customer, minutes), day), leaves)
            self.assertNotEqual(last(with_more(hall, counter, customer, minutes + 1), day), leaves)

    def test_minutes_really_put_in(self):
        for hall in sample_halls():
            for counter in range(len(hall)):
                for customer in range(len(hall[0])):
                    self.hold(hall, counter, customer)

    def test_told_by_hand(self):
        hall = ((1, 2), (5, 1))
        self.assertEqual([[spare(hall, i, k) for k in (0, 1)] for i in (0, 1)], [[0, 3], [0, 0]])

    def test_whoever_is_held_up_first_bounds_it(self):
        # Customer 1 is held up behind 4 minutes more; customer 2 sooner or not.
        self.assertEqual(spare(((0, 0, 0), (4, 0, 0)), 0, 1), 4)
        self.assertEqual(spare(((0, 0, 3), (4, 0, 0)), 0, 1), 1)
        self.assertEqual(spare(((0, 0, 9), (4, 0, 0)), 0, 1), 0)

    def test_one_counter_or_one_customer_has_none(self):
        for hall in (((3, 0, 4),), ((3,), (0,), (4,)), ((0,),)):
            for counter in range(len(hall)):
                for customer in range(len(hall[0])):
                    self.assertEqual(spare(hall, counter, customer), 0)


if __name__ == "__main__":
    unittest.main()
