"""Moves between two neighbouring counters: move, back, can_move, moved ([11], [12])."""

import random
import unittest

from movedminutes.moves import back, can_move, move, moved
from movedminutes.ways import alike, greatest
from tests.one_by_one import leads_anew, led_between, one_back, one_on
from tests.samples import (
    FIFTEEN_FIGURES, KINDS, great, hall_of_kind, listed_greatest, noughts, pairs, sample_halls, small, small_halls,
)


def neighbours(halls):
    for hall in halls:
        for counter in range(len(hall) - 1):
            yield hall, counter


def halls_at_random(seed, many, kinds=KINDS, most=8):
    chance = random.Random(seed)
    for _ in range(many):
        yield hall_of_kind(chance, chance.randint(1, most), chance.randint(1, most), chance.choice(kinds))


class TestMoveAndBack(unittest.TestCase):
    def hold(self, hall, counter):
        self.assertEqual(move(hall, counter), one_on(hall, counter))
        self.assertEqual(back(hall, counter), one_back(hall, counter))

    def test_by_the_leads_added_up_anew(self):
        for hall, counter in neighbours(sample_halls()):
            self.hold(hall, counter)

    def test_many_of_like_lead(self):
        for hall, counter in neighbours(halls_at_random(1, 400, [noughts, small], 5)):
            self.hold(hall, counter)

    def test_all_small_halls(self):
        for hall, counter in neighbours(small_halls(2, 3, 2) + small_halls(3, 2, 1) + small_halls(2, 1, 3)):
            self.hold(hall, counter)

    def test_told_by_hand(self):
        # The leads are 3, 2, 0: the first customer alone has the greatest.
        self.assertEqual(leads_anew(((3, 1, 2), (2, 4, 1)), 0), [3, 2, 0])
        self.assertEqual(move(((3, 1, 2), (2, 4, 1)), 0), ((2, 1, 2), (3, 4, 1)))
        self.assertEqual(back(((3, 1, 2), (2, 4, 1)), 0), ((4, 1, 2), (1, 4, 1)))

    def test_the_first_goes_on_and_the_last_comes_back(self):
        hall = ((2, 1, 1), (1, 1, 1))
        self.assertEqual(leads_anew(hall, 0), [2, 2, 2])
        self.assertEqual(move(hall, 0), ((1, 1, 1), (2, 1, 1)))
        self.assertEqual(back(hall, 0), ((2, 1, 2), (1, 1, 0)))

    def test_between_the_counters_that_are_told(self):
        hall = ((1, 0), (2, 0), (3, 0))
        self.assertEqual(move(hall, 0), ((0, 0), (3, 0), (3, 0)))
        self.assertEqual(move(hall, 1), ((1, 0), (1, 0), (4, 0)))
        self.assertEqual(back(hall, 0), ((2, 0), (1, 0), (3, 0)))
        self.assertEqual(back(hall, 1), ((1, 0), (3, 0), (2, 0)))

    def test_a_lead_of_nought(self):
        self.assertIsNone(move(((0,), (4,)), 0))
        self.assertEqual(back(((0,), (4,)), 0), ((1,), (3,)))
        self.assertIsNone(back(((4,), (0,)), 0))
        self.assertIsNone(move(((0, 1), (1, 0)), 0))
        self.assertIsNone(back(((0, 1), (1, 0)), 0))

    def test_noughts_everywhere(self):
        for counters in range(2, 9):
            for customers in (1, 2, 8):
                hall = ((0,) * customers,) * counters
                for counter in range(counters - 1):
                    self.assertIsNone(move(hall, counter))
                    self.assertIsNone(back(hall, counter))
                    self.assertEqual(can_move(hall, counter), (0, 0))
                    self.assertEqual(moved(hall, counter, 0), hall)

    def test_one_customer(self):
        self.assertEqual(move(((2,), (0,), (5,)), 0), ((1,), (1,), (5,)))
        self.assertEqual(back(((2,), (0,), (5,)), 1), ((2,), (1,), (4,)))
        self.assertEqual(can_move(((2,), (0,), (5,)), 0), (2, 0))
        self.assertEqual(can_move(((2,), (0,), (5,)), 1), (0, 5))

    def test_a_move_back_undoes_a_move_and_the_other_way_about(self):
        for hall, counter in neighbours(sample_halls()):
            on, off = move(hall, counter), back(hall, counter)
            if on is not None:
                self.assertEqual(back(on, counter), hall)
            if off is not None:
                self.assertEqual(move(off, counter), hall)


class TestCanMove(unittest.TestCase):
    def test_by_the_leads_and_the_greatest_worth(self):
        for hall, counter in neighbours(sample_halls()):
            both = hall[counter:counter + 2]
            worth = listed_greatest(both, 0, len(both[0]) - 1)
            told = can_move(hall, counter)
            self.assertIs(type(told), tuple)
            self.assertEqual(told, (max(leads_anew(hall, counter)), worth - sum(both[0])))

    def test_by_single_moves_one_by_one(self):
        for hall, counter in neighbours(halls_at_random(2, 150, [noughts, small], 5)):
            led = led_between(hall, counter)
            self.assertEqual(can_move(hall, counter), (max(led), -min(led)))

    def test_behind_a_move_there_is_one_fewer_on_and_one_more_back(self):
        for hall, counter in neighbours(halls_at_random(3, 200)):
            on, off = can_move(hall, counter)
            if on:
                self.assertEqual(can_move(move(hall, counter), counter), (on - 1, off + 1))
            if off:
                self.assertEqual(can_move(back(hall, counter), counter), (on + 1, off - 1))


class TestMoved(unittest.TestCase):
    def test_by_single_moves_one_by_one(self):
        for hall, counter in neighbours(halls_at_random(4, 200, [noughts, small], 6)):
            led = led_between(hall, counter)
            for many in range(min(led) - 3, max(led) + 4):
                self.assertEqual(moved(hall, counter, many), led.get(many))

    def test_all_small_halls(self):
        for hall, counter in neighbours(small_halls(2, 3, 2) + small_halls(2, 2, 3)):
            led = led_between(hall, counter)
            for many in range(-13, 14):
                self.assertEqual(moved(hall, counter, many), led.get(many))

    def test_one_is_move_and_one_below_nought_back(self):
        for hall, counter in neighbours(sample_halls()):
            self.assertEqual(moved(hall, counter, 1), move(hall, counter))
            self.assertEqual(moved(hall, counter, -1), back(hall, counter))
            self.assertEqual(moved(hall, counter, 0), hall)

    def test_as_many_as_can_be_done_and_one_more(self):
        for hall, counter in neighbours(sample_halls()):
            on, off = can_move(hall, counter)
            self.assertEqual(can_move(moved(hall, counter, on), counter), (0, on + off))
            self.assertEqual(can_move(moved(hall, counter, -off), counter), (on + off, 0))
            for many in (on + 1, on + 10 ** 15, 10 ** 40, -off - 1, -off - 10 ** 15, -(10 ** 40)):
                self.assertIsNone(moved(hall, counter, many))

    def test_many_moves_in_parts(self):
        chance = random.Random(5)
        for hall, counter in neighbours(halls_at_random(6, 300, [great, small])):
            on, off = can_move(hall, counter)
            for _ in range(3):
                first, both = chance.randint(-off, on), chance.randint(-off, on)
                behind = moved(hall, counter, first)
                self.assertEqual(moved(behind, counter, both - first), moved(hall, counter, both))
                self.assertEqual(moved(behind, counter, -first), hall)

    def test_very_many_moves_by_hand(self):
        most = FIFTEEN_FIGURES
        hall = ((most, most), (0, 0))
        self.assertEqual(can_move(hall, 0), (2 * most, 0))
        self.assertEqual(moved(hall, 0, most - 1), ((most, 1), (0, most - 1)))
        self.assertEqual(moved(hall, 0, most + 1), ((most - 1, 0), (1, most)))
        self.assertEqual(moved(hall, 0, 2 * most), ((0, 0), (most, most)))
        self.assertEqual(moved(((0, 0), (most, most)), 0, -most - 1), ((most, 1), (0, most - 1)))

    def test_no_move_changes_any_greatest_worth(self):
        chance = random.Random(7)
        for hall, counter in neighbours(sample_halls()[::2]):
            on, off = can_move(hall, counter)
            for many in (-off, on, chance.randint(-off, on)):
                told = moved(hall, counter, many)
                self.assertIs(alike(hall, told), True)
                for pair in pairs(hall)[::3]:
                    self.assertEqual(greatest(told, *pair), greatest(hall, *pair))

    def test_other_counters_and_what_each_customer_needs_stay(self):
        for hall, counter in neighbours(sample_halls()):
            on, off = can_move(hall, counter)
            for many in (-off, on):
                told = moved(hall, counter, many)
                self.assertEqual(told[:counter] + told[counter + 2:], hall[:counter] + hall[counter + 2:])
                self.assertEqual(sum(told[counter]), sum(hall[counter]) - many)
                columns = [sum(column) for column in zip(*hall)]
                self.assertEqual([sum(column) for column in zip(*told)], columns)


if __name__ == "__main__":
    unittest.main()
