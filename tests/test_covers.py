"""Ways apart: covered, cover, not_led ([18], [19])."""

import random
import unittest

from movedminutes.covers import cover, covered, not_led
from movedminutes.moves import can_move, moved
from movedminutes.sums import exchanged, to_first
from movedminutes.ways import alike, greatest
from tests.one_by_one import grown_covers, led_by_moves, listed_covered, minutes_of, ways_among
from tests.samples import (
    FIFTEEN_FIGURES, KINDS, hall_of_kind, noughts, sample_halls, small, small_halls, with_more,
)

# As many counters and customers as all lots of ways can be listed of.
LISTED = [
    (counters, customers)
    for counters in (1, 2, 3) for customers in (1, 2, 3)
] + [(2, 4), (4, 2), (1, 7), (7, 1), (2, 5), (5, 2), (3, 4)]


def bounds(hall):
    for many in range(min(len(hall), len(hall[0])) + 1):
        for customers in range(len(hall[0]) + 1):
            yield many, customers


def listed_halls():
    chance = random.Random(1)
    for counters, customers in LISTED:
        for kind in KINDS + [noughts, small]:
            yield hall_of_kind(chance, counters, customers, kind)
    for many in (1, 2, 3):
        yield ((0,) * many,) * many


class TestCovered(unittest.TestCase):
    def test_by_all_lots_of_ways(self):
        for hall in listed_halls():
            for many, customers in bounds(hall):
                if customers:
                    self.assertEqual(covered(hall, many, customers), listed_covered(hall, many, customers))

    def test_all_small_halls_by_all_lots_of_ways(self):
        for hall in small_halls(2, 2, 2) + small_halls(3, 2, 1) + small_halls(2, 3, 1) + small_halls(3, 3, 1)[::7]:
            for many, customers in bounds(hall):
                if customers:
                    self.assertEqual(covered(hall, many, customers), listed_covered(hall, many, customers))

    def test_grown_cell_by_cell(self):
        for hall in sample_halls():
            for (many, customers), most in grown_covers(hall).items():
                self.assertEqual(covered(hall, many, customers), most)

    def test_of_no_customers_or_no_ways(self):
        for hall in sample_halls():
            for many in range(min(len(hall), len(hall[0])) + 1):
                self.assertEqual(covered(hall, many, 0), 0)
            for customers in range(len(hall[0]) + 1):
                self.assertEqual(covered(hall, 0, customers), 0)

    def test_one_way_is_the_greatest_worth(self):
        for hall in sample_halls():
            for customers in range(1, len(hall[0]) + 1):
                self.assertEqual(covered(hall, 1, customers), greatest(hall, 0, customers - 1))

    def test_as_many_as_the_lesser_of_both_cover_all(self):
        for hall in sample_halls():
            for customers in range(len(hall[0]) + 1):
                told = covered(hall, min(len(hall), len(hall[0])), customers)
                self.assertEqual(told, sum(sum(row[:customers]) for row in hall))

    def test_told_by_hand(self):
        hall = ((0, 3, 1), (2, 1, 4), (5, 1, 2))
        self.assertEqual([covered(hall, many, 3) for many in range(4)], [0, 10, 18, 19])
        self.assertEqual([covered(hall, many, 2) for many in range(4)], [0, 8, 12, 12])
        self.assertEqual([covered(hall, many, 1) for many in range(4)], [0, 7, 7, 7])
        self.assertEqual(covered(((FIFTEEN_FIGURES,) * 8,) * 8, 8, 8), 64 * FIFTEEN_FIGURES)

    def test_no_move_changes_it(self):
        chance = random.Random(2)
        for hall in sample_halls()[::2]:
            told = to_first(hall)
            for many, customers in bounds(hall):
                self.assertEqual(covered(told, many, customers), covered(hall, many, customers))
            if len(hall) > 1:
                counter = chance.randrange(len(hall) - 1)
                on, off = can_move(hall, counter)
                for by in (on, -off, min(1, on), -min(1, off)):
                    behind = moved(hall, counter, by)
                    for many, customers in list(bounds(hall))[::3]:
                        self.assertEqual(covered(behind, many, customers), covered(hall, many, customers))


class TestCover(unittest.TestCase):
    def hold(self, hall, many, customers):
        """Hold so many ways, each cell by cell, by what they cover together."""
        told = cover(hall, many, customers)
        self.assertIs(type(told), list)
        if customers == 0:
            self.assertEqual(told, [])
            return
        self.assertEqual(len(told), many)
        for way in told:
            self.assertIs(type(way), list)
            self.assertTrue(all(type(cell) is tuple for cell in way))
            self.assertEqual(way[0][0], 0)
            self.assertEqual(way[-1][0], len(hall) - 1)
            for (counter, customer), cell in zip(way, way[1:]):
                self.assertIn(cell, [(counter, customer + 1), (counter + 1, customer)])
            for counter, customer in way:
                self.assertIn(customer, range(customers))
        cells = {cell for way in told for cell in way}
        self.assertEqual(minutes_of(hall, cells), covered(hall, many, customers))

    def test_sample_halls(self):
        for hall in sample_halls():
            for many, customers in bounds(hall):
                self.hold(hall, many, customers)

    def test_halls_of_few_sorts_of_minutes(self):
        chance = random.Random(3)
        for _ in range(200):
            hall = hall_of_kind(chance, chance.randint(2, 6), chance.randint(2, 6), chance.choice([noughts, small]))
            for many, customers in bounds(hall):
                self.hold(hall, many, customers)

    def test_the_ways_are_some_of_all(self):
        for hall in listed_halls():
            for many, customers in bounds(hall):
                found = ways_among(len(hall), customers)
                for way in cover(hall, many, customers):
                    self.assertIn(way, found)

    def test_one_way_more_turns_others_aside(self):
        # The best way goes by four cells and leaves two that no one way covers;
        # three each lie on two other ways.
        hall = tuple(tuple(int(k == at) for k in range(6)) for at in (1, 2, 5, 0, 3, 4))
        self.assertEqual([covered(hall, many, 6) for many in (1, 2)], [4, 6])
        best = [cell for cell in cover(hall, 1, 6)[0] if hall[cell[0]][cell[1]]]
        self.assertEqual(best, [(0, 1), (1, 2), (4, 3), (5, 4)])
        left = hall
        for counter, customer in best:
            left = with_more(left, counter, customer, -1)
        self.assertEqual(covered(left, 1, 6), 1)
        for many in range(7):
            self.hold(hall, many, 6)

    def test_no_ways_and_no_customers(self):
        for hall in sample_halls():
            for many, customers in bounds(hall):
                if many == 0 or customers == 0:
                    self.assertEqual(cover(hall, many, customers), [])

    def test_more_ways_than_customers(self):
        hall = ((1, 2, 3), (4, 5, 6), (7, 8, 9))
        for many in (1, 2, 3):
            ways = cover(hall, many, 1)
            self.assertEqual(ways, [[(0, 0), (1, 0), (2, 0)]] * many)
            self.assertEqual(len({id(way) for way in ways}), many)

    def test_one_counter_and_one_customer(self):
        self.assertEqual(cover(((5,),), 1, 1), [[(0, 0)]])
        self.assertEqual(cover(((5,), (0,)), 1, 1), [[(0, 0), (1, 0)]])
        for customers in range(1, 5):
            self.hold(((1, 0, 2, 3),), 1, customers)


def halls_near(hall, chance):
    """Halls led to from it, and others of as many counters and customers."""
    counters, customers = len(hall), len(hall[0])
    found = [to_first(hall), hall[::-1], tuple(row[::-1] for row in hall)]
    found.append(with_more(hall, chance.randrange(counters), chance.randrange(customers), 1))
    found.append(with_more(hall, chance.randrange(counters), chance.randrange(customers), 10 ** 15))
    found.append(hall_of_kind(chance, counters, customers, small))
    if counters > 1:
        found.append(exchanged(hall, chance.randrange(counters - 1)))
    return found


class TestNotLed(unittest.TestCase):
    def hold(self, hall, other):
        covers, others = grown_covers(hall), grown_covers(other)
        apart = [pair for pair in bounds(hall) if covers[pair] != others[pair]]
        told = not_led(hall, other)
        self.assertEqual(told, min(apart, default=None))
        self.assertEqual(not_led(other, hall), told)
        if told is not None:
            self.assertIs(type(told), tuple)
            self.assertNotEqual(covered(hall, *told), covered(other, *told))

    def test_the_least_whose_covers_differ(self):
        chance = random.Random(4)
        for hall in sample_halls()[::2]:
            for other in halls_near(hall, chance):
                self.hold(hall, other)
                self.hold(to_first(other), other)

    def test_led_to_one_another_just_where_all_are_alike(self):
        for hall in small_halls(2, 2, 2)[::5] + small_halls(3, 2, 1)[::3]:
            led = led_by_moves(hall)
            most = sum(map(sum, hall))
            for other in small_halls(len(hall), 2, 2)[::3]:
                if sum(map(sum, other)) == most:
                    self.assertIs(not_led(hall, other) is None, other in led)
            for other in led:
                self.assertIsNone(not_led(hall, other))

    def test_told_by_hand(self):
        self.assertIsNone(not_led(((5,), (2,)), ((0,), (7,))))
        self.assertEqual(not_led(((5,), (2,)), ((0,), (6,))), (1, 1))
        self.assertEqual(not_led(((1, 2),), ((1, 3),)), (1, 2))
        self.assertEqual(not_led(((0, 1), (1, 0)), ((1, 0), (0, 0))), (2, 2))

    def test_two_ways_tell_apart_what_no_day_does(self):
        hall, other = ((0, 0, 0), (0, 1, 1), (1, 1, 0)), ((0, 0, 1), (0, 1, 0), (1, 1, 0))
        self.assertIs(alike(hall, other), True)
        self.assertEqual(not_led(hall, other), (2, 3))

    def test_fewer_ways_go_before_fewer_customers(self):
        hall, other = ((0, 1, 0), (1, 0, 0)), ((1, 0, 1), (0, 0, 0))
        self.assertNotEqual(covered(hall, 2, 2), covered(other, 2, 2))
        self.assertNotEqual(covered(hall, 1, 3), covered(other, 1, 3))
        self.assertEqual([covered(hall, 1, c) for c in (1, 2)], [covered(other, 1, c) for c in (1, 2)])
        self.assertEqual(not_led(hall, other), (1, 3))


if __name__ == "__main__":
    unittest.main()
