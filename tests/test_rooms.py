"""Where it is seen: blocked, is_seen, seen_day ([23])."""

import itertools
import random
import unittest

from movedminutes.errors import NoMove
from movedminutes.halls import last, leavings
from movedminutes.moves import can_move
from movedminutes.rooms import blocked, is_seen, seen_day
from tests.one_by_one import one_on
from tests.samples import (
    FIFTEEN_FIGURES, KINDS, all_minutes, days_up_to, hall_days, hall_of_kind, middling, noughts, sample_days,
    sample_halls, small, small_halls,
)
from tests.test_moves import halls_at_random, neighbours

MANY = 10 ** 40


def raised_blocked(hall, day, room):
    """The least times that no rule forbids, found by raising them until none is broken."""
    left = [[0] * len(day) for _ in hall]
    changed = True
    while changed:
        changed = False
        for i, k in itertools.product(range(len(hall)), range(len(day))):
            begun = max([day[k]] + [left[i - 1][k]] * (i > 0) + [left[i][k - 1]] * (k > 0))
            least = begun + hall[i][k]
            if i + 1 < len(hall) and k - room - 1 >= 0:
                least = max(least, left[i + 1][k - room - 1])
            if left[i][k] < least:
                left[i][k] = least
                changed = True
    return left


def begun_at(left, counter, customer):
    """When a customer who has come to a later counter begins there."""
    ahead = left[counter][customer - 1] if customer else 0
    return max(left[counter - 1][customer], ahead)


def most_waiting(left, counter):
    """How many wait ahead of a later counter at once, at most."""
    customers = range(len(left[0]))
    times = {time for row in left for time in row}
    return max(
        sum(left[counter - 1][k] <= time < begun_at(left, counter, k) for k in customers) for time in times
    )


class TestBlocked(unittest.TestCase):
    def hold(self, hall, day, room):
        told = blocked(hall, day, room)
        self.assertEqual(told, raised_blocked(hall, day, room))
        return told

    def test_by_the_rule_cell_by_cell(self):
        for at, (hall, day) in enumerate(hall_days()):
            self.hold(hall, day, at // 6 % 4)

    def test_small_halls_on_all_days(self):
        for hall in small_halls(2, 2, 2) + small_halls(3, 2, 1) + small_halls(2, 3, 1):
            for day in days_up_to(len(hall[0]), 3):
                for room in range(3):
                    self.hold(hall, day, room)

    def test_lists_of_whole_numbers(self):
        for hall, day in hall_days():
            told = blocked(hall, day, 1)
            self.assertIs(type(told), list)
            self.assertEqual(len(told), len(hall))
            for row in told:
                self.assertIs(type(row), list)
                self.assertEqual(len(row), len(day))
                self.assertTrue(all(type(time) is int for time in row))

    def test_no_more_wait_than_there_is_room_for(self):
        met = set()
        for hall in halls_at_random(1, 150, [small, middling, noughts], 6):
            for day in sample_days(hall)[:3]:
                for room in range(3):
                    told = blocked(hall, day, room)
                    for counter in range(1, len(hall)):
                        waiting = most_waiting(told, counter)
                        self.assertLessEqual(waiting, room)
                        met.add((waiting, room))
        self.assertEqual(met, {(0, 0), (0, 1), (1, 1), (0, 2), (1, 2), (2, 2)})

    def test_with_room_for_all_but_one_customers_as_leavings(self):
        for hall, day in hall_days():
            for room in (len(day) - 1, len(day), 8, MANY):
                self.assertEqual(blocked(hall, day, room), leavings(hall, day))

    def test_with_room_for_one_fewer_it_may_be_otherwise(self):
        for customers in range(2, 9):
            hall = ((1,) * customers, (customers,) * customers)
            day = [0] * customers
            self.assertNotEqual(blocked(hall, day, customers - 2), leavings(hall, day))
            self.assertEqual(blocked(hall, day, customers - 2)[-1], last(hall, day))

    def test_with_more_room_nobody_leaves_later(self):
        for hall, day in hall_days():
            before = blocked(hall, day, 0)
            for room in range(1, len(day)):
                told = blocked(hall, day, room)
                for row, row_before in zip(told, before):
                    self.assertTrue(all(time <= later for time, later in zip(row, row_before)))
                before = told

    def test_nobody_is_held_at_the_last_counter(self):
        for hall in sample_halls():
            for day in sample_days(hall)[:2]:
                told = blocked(hall[-1:], day, 0)
                self.assertEqual(told, leavings(hall[-1:], day))
                *_, coming, going = [day] + blocked(hall, day, 0)
                for k, time in enumerate(going):
                    begun = max(coming[k], going[k - 1] if k else 0)
                    self.assertEqual(time, begun + hall[-1][k])

    def test_very_many_minutes(self):
        most = FIFTEEN_FIGURES
        hall = ((1,) * 8,) + ((most,) * 8,) * 7
        self.hold(hall, [0] * 8, 0)
        self.hold(hall, [most * k for k in range(8)], 2)

    def test_told_by_hand(self):
        hall = ((1, 1, 1), (3, 3, 3))
        self.assertEqual(blocked(hall, [0, 0, 0], 0), [[1, 4, 7], [4, 7, 10]])
        self.assertEqual(blocked(hall, [0, 0, 0], 1), [[1, 2, 4], [4, 7, 10]])
        self.assertEqual(blocked(hall, [0, 0, 0], 2), [[1, 2, 3], [4, 7, 10]])
        self.assertEqual(blocked(hall, [0, 2, 9], 0), [[1, 4, 10], [4, 7, 13]])
        self.assertEqual(blocked(((3, 1),), [1, 2], 0), [[4, 5]])
        self.assertEqual(blocked(((3,), (1,)), [1], 0), [[4], [5]])
        self.assertEqual(blocked(((0, 0), (0, 0)), [4, 4], 0), [[4, 4], [4, 4]])
        # Who is held at one counter holds up the next one ahead of it, too.
        hall = ((1, 1, 1), (1, 1, 1), (9, 1, 1))
        self.assertEqual(blocked(hall, [0, 0, 0], 0), [[1, 2, 11], [2, 11, 12], [11, 12, 13]])


def moving(halls):
    """The halls with each counter from which a minute can be moved."""
    for hall, counter in neighbours(halls):
        if can_move(hall, counter)[0]:
            yield hall, counter


def noticed(hall, other, day, room):
    return raised_blocked(hall, day, room)[-1] != raised_blocked(other, day, room)[-1]


class TestIsSeen(unittest.TestCase):
    def test_by_blocked_of_both_halls(self):
        chance = random.Random(2)
        met = set()
        for hall, counter in moving(sample_halls()):
            other = one_on(hall, counter)
            for day in sample_days(hall)[chance.randrange(2)::2]:
                for room in {0, 1, chance.randrange(8)}:
                    told = is_seen(hall, counter, day, room)
                    self.assertIs(told, noticed(hall, other, day, room))
                    met.add((told, room))
        self.assertIn((True, 0), met)
        self.assertIn((True, 1), met)

    def test_small_halls_on_all_days(self):
        met = {True: 0, False: 0}
        for hall, counter in moving(small_halls(3, 3, 1)[::3]):
            other = one_on(hall, counter)
            for day in days_up_to(3, 2):
                told = is_seen(hall, counter, day, 0)
                self.assertIs(told, noticed(hall, other, day, 0))
                met[told] += 1
        self.assertGreater(min(met.values()), 10)

    def test_unseen_with_room_for_all_but_one(self):
        for hall, counter in moving(sample_halls()):
            for day in sample_days(hall)[:4]:
                for room in (len(day) - 1, MANY):
                    self.assertIs(is_seen(hall, counter, day, room), False)

    def test_no_minute_that_can_be_moved(self):
        for hall, counter in neighbours(sample_halls()):
            if can_move(hall, counter)[0] == 0:
                with self.assertRaises(NoMove):
                    is_seen(hall, counter, [0] * len(hall[0]), 0)

    def test_told_by_hand(self):
        hall = ((0, 0, 1), (0, 0, 0), (1, 0, 0))
        # Behind the move the last customer begins at the second counter only at
        # 1, where the one ahead was held until then, and leaves at 2.
        self.assertEqual(blocked(hall, [0, 0, 0], 0)[-1], [1, 1, 1])
        self.assertEqual(blocked(((0, 0, 0), (0, 0, 1), (1, 0, 0)), [0, 0, 0], 0)[-1], [1, 1, 2])
        self.assertIs(is_seen(hall, 0, [0, 0, 0], 0), True)
        self.assertIs(is_seen(hall, 0, [0, 0, 1], 0), False)
        self.assertIs(is_seen(hall, 0, [0, 0, 0], 1), False)
        self.assertIs(is_seen(((3, 1, 2), (2, 4, 1)), 0, [0, 0, 0], 0), False)


class TestSeenDay(unittest.TestCase):
    def days(self, hall):
        """All days of times 0 and one more than all minutes of the hall, rising."""
        late = all_minutes(hall) + 1
        found = [list(day) for day in itertools.product((0, late), repeat=len(hall[0]))]
        return sorted(day for day in found if day == sorted(day))

    def hold(self, hall, counter, room):
        told = seen_day(hall, counter, room)
        other = one_on(hall, counter)
        seen_ones = [day for day in self.days(hall) if noticed(hall, other, day, room)]
        self.assertEqual(told, seen_ones[0] if seen_ones else None)
        if told is not None:
            self.assertIs(type(told), list)
            self.assertIs(is_seen(hall, counter, told, room), True)
        return None if told is None else sum(time > 0 for time in told)

    def test_by_all_such_days(self):
        met = set()
        for hall, counter in moving(halls_at_random(3, 400, [noughts, small], 6)):
            for room in range(3):
                met.add((self.hold(hall, counter, room), room))
        for told in [(None, 0), (None, 1), (None, 2), (0, 0), (0, 1)]:
            self.assertIn(told, met)

    def test_on_which_some_come_late(self):
        hall = ((0, 0, 0, 0, 1), (1, 1, 1, 0, 0), (1, 0, 0, 0, 0), (1, 1, 0, 0, 0))
        self.assertEqual(seen_day(hall, 1, 0), [0, 0, 8, 8, 8])
        self.assertEqual(self.hold(hall, 1, 0), 3)
        hall = ((0, 0, 0, 1), (1, 1, 0, 1), (0, 0, 1, 0), (5, 0, 0, 0))
        self.assertEqual(seen_day(hall, 1, 0), [0, 11, 11, 11])
        self.assertEqual(self.hold(hall, 1, 0), 3)
        hall = ((0, 0, 0, 0, 1), (0, 0, 0, 0, 0), (0, 1, 0, 0, 0), (5, 0, 0, 0, 0))
        self.assertEqual(seen_day(hall, 0, 1), [0, 8, 8, 8, 8])
        self.assertEqual(self.hold(hall, 0, 1), 4)

    def test_sample_halls(self):
        for hall, counter in moving(sample_halls()[::3]):
            self.hold(hall, counter, 0)

    def test_small_halls(self):
        for hall, counter in moving(small_halls(3, 3, 1)[::2] + small_halls(2, 3, 1) + small_halls(3, 2, 1)):
            for room in range(3):
                self.hold(hall, counter, room)

    def test_none_with_room_for_all_but_one(self):
        for hall, counter in moving(sample_halls()):
            for room in (len(hall[0]) - 1, len(hall[0]), MANY):
                self.assertIsNone(seen_day(hall, counter, room))

    def test_no_minute_that_can_be_moved(self):
        for hall, counter in neighbours(sample_halls()):
            if can_move(hall, counter)[0] == 0:
                with self.assertRaises(NoMove):
                    seen_day(hall, counter, 0)

    def test_very_many_minutes(self):
        chance = random.Random(4)
        met = set()
        for _ in range(60):
            hall = hall_of_kind(chance, chance.randint(3, 8), chance.randint(3, 8), chance.choice(KINDS[2:]))
            for at, counter in moving([hall]):
                met.add(self.hold(at, counter, chance.randrange(2)))
        self.assertIn(0, met)
        self.assertIn(None, met)

    def test_told_by_hand(self):
        self.assertEqual(seen_day(((0, 0, 1), (0, 0, 0), (1, 0, 0)), 0, 0), [0, 0, 0])
        self.assertIsNone(seen_day(((0, 0, 1), (0, 0, 0), (1, 0, 0)), 0, 1))
        self.assertIsNone(seen_day(((5,), (1,)), 0, 0))


if __name__ == "__main__":
    unittest.main()
