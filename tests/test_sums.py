"""Totals: totals, with_total, exchanged, in_order, to_first, settled, to_last, fewest ([13] to [15])."""

import itertools
import random
import unittest

from movedminutes.moves import can_move, moved
from movedminutes.sums import exchanged, fewest, in_order, settled, to_first, to_last, totals, with_total
from tests.one_by_one import at_random_to_the_end, led_between, led_by_moves, one_back, one_on
from tests.samples import (
    FIFTEEN_FIGURES, great, hall_of_kind, middling, noughts, sample_halls, small, small_halls, ways_of,
)
from tests.test_moves import halls_at_random, neighbours


class TestTotals(unittest.TestCase):
    def test_added_up_cell_by_cell(self):
        for hall in sample_halls():
            added = [0] * len(hall)
            for i, row in enumerate(hall):
                for minutes in row:
                    added[i] += minutes
            self.assertEqual(totals(hall), tuple(added))

    def test_told_by_hand(self):
        self.assertEqual(totals(((3, 1, 2), (2, 4, 1))), (6, 7))
        self.assertEqual(totals(((0,),)), (0,))
        self.assertEqual(totals(((FIFTEEN_FIGURES,) * 8,)), (8 * FIFTEEN_FIGURES,))


class TestWithTotal(unittest.TestCase):
    def test_by_all_halls_that_single_moves_lead_to(self):
        for hall, counter in neighbours(halls_at_random(1, 150, [noughts, small], 5)):
            led = list(led_between(hall, counter).values())
            by_total = {sum(told[counter]): told for told in led}
            least, greatest_one = min(by_total), max(by_total)
            self.assertEqual(len(by_total), len(led))
            self.assertEqual(sorted(by_total), list(range(least, greatest_one + 1)))
            for total in range(greatest_one + 4):
                self.assertEqual(with_total(hall, counter, total), by_total.get(total))

    def test_the_least_and_the_greatest_and_one_beyond(self):
        for hall, counter in neighbours(sample_halls()):
            on, off = can_move(hall, counter)
            here = totals(hall)[counter]
            self.assertEqual(with_total(hall, counter, here), hall)
            for total in (here - on, here + off):
                told = with_total(hall, counter, total)
                self.assertEqual(totals(told)[counter], total)
                self.assertEqual(told, moved(hall, counter, here - total))
            if here > on:
                self.assertIsNone(with_total(hall, counter, here - on - 1))
            self.assertIsNone(with_total(hall, counter, here + off + 1))
            self.assertIsNone(with_total(hall, counter, 10 ** 40))

    def test_told_by_hand(self):
        hall = ((3, 1, 2), (2, 4, 1))
        self.assertEqual(with_total(hall, 0, 5), ((2, 1, 2), (3, 4, 1)))
        self.assertEqual(with_total(hall, 0, 6), hall)
        self.assertEqual(with_total(hall, 0, 7), ((4, 1, 2), (1, 4, 1)))
        self.assertIsNone(with_total(((0, 1), (1, 0)), 0, 0))
        self.assertIsNone(with_total(((0, 1), (1, 0)), 0, 2))


class TestExchanged(unittest.TestCase):
    def test_by_all_halls_that_single_moves_lead_to(self):
        for hall, counter in neighbours(halls_at_random(2, 150, [noughts, small], 5)):
            here, there = totals(hall)[counter:counter + 2]
            led = led_between(hall, counter).values()
            found = [told for told in led if totals(told)[counter:counter + 2] == (there, here)]
            self.assertEqual([exchanged(hall, counter)], found)

    def test_the_totals_change_places(self):
        for hall, counter in neighbours(sample_halls()):
            wished = list(totals(hall))
            wished[counter], wished[counter + 1] = wished[counter + 1], wished[counter]
            self.assertEqual(totals(exchanged(hall, counter)), tuple(wished))

    def test_two_alike_stay(self):
        for hall in (((1, 2), (3, 0)), ((0, 0), (0, 0)), ((5,), (5,)), ((10 ** 15 - 1, 0), (0, 10 ** 15 - 1))):
            self.assertEqual(exchanged(hall, 0), hall)

    def test_twice_it_is_the_hall(self):
        for hall, counter in neighbours(sample_halls()):
            self.assertEqual(exchanged(exchanged(hall, counter), counter), hall)

    def test_three_neighbours(self):
        for hall, counter in neighbours(sample_halls()):
            if counter + 2 < len(hall):
                one = exchanged(exchanged(exchanged(hall, counter), counter + 1), counter)
                other = exchanged(exchanged(exchanged(hall, counter + 1), counter), counter + 1)
                self.assertEqual(one, other)

    def test_no_neighbours_in_either_order(self):
        for hall, counter in neighbours(sample_halls()):
            for other in range(counter + 2, len(hall) - 1):
                self.assertEqual(
                    exchanged(exchanged(hall, counter), other), exchanged(exchanged(hall, other), counter)
                )

    def test_told_by_hand(self):
        self.assertEqual(exchanged(((3, 1, 2), (2, 4, 1)), 0), ((4, 1, 2), (1, 4, 1)))
        self.assertEqual(exchanged(((5,), (0,), (2,)), 1), ((5,), (2,), (0,)))


def exchanged_at_random(hall, many, chance):
    for _ in range(many):
        hall = exchanged(hall, chance.randrange(len(hall) - 1))
    return hall


class TestInOrder(unittest.TestCase):
    def orders(self, hall, chance):
        """All orders of the totals of few counters, some of those of many."""
        told = totals(hall)
        if len(hall) <= 4:
            return sorted(set(itertools.permutations(told)))
        return [tuple(chance.sample(told, len(told))) for _ in range(6)] + [tuple(sorted(told)), told[::-1]]

    def test_by_whatever_exchanges_they_come_to_an_order(self):
        chance = random.Random(3)
        for hall in sample_halls():
            self.assertEqual(in_order(hall, totals(hall)), hall)
            if len(hall) > 1:
                for many in (1, 2, 5, 30):
                    told = exchanged_at_random(hall, many, chance)
                    self.assertEqual(in_order(hall, totals(told)), told)

    def test_the_totals_are_as_wished_and_it_leads_back(self):
        chance = random.Random(4)
        for hall in sample_halls():
            for wished in self.orders(hall, chance):
                told = in_order(hall, wished)
                self.assertEqual(totals(told), wished)
                self.assertEqual(in_order(told, totals(hall)), hall)

    def test_it_hangs_on_the_totals_alone(self):
        chance = random.Random(5)
        for hall in sample_halls()[::3]:
            for wished in self.orders(hall, chance)[:6]:
                if len(hall) > 1:
                    other = exchanged_at_random(hall, 9, chance)
                    self.assertEqual(in_order(other, wished), in_order(hall, wished))

    def test_two_totals_alike(self):
        chance = random.Random(6)
        for _ in range(200):
            counters, customers = chance.randint(2, 6), chance.randint(1, 5)
            hall = hall_of_kind(chance, counters, customers, lambda told: told.randint(0, 1))
            for wished in self.orders(hall, chance):
                told = in_order(hall, wished)
                self.assertEqual(totals(told), wished)
                again = exchanged_at_random(hall, 20, chance)
                self.assertEqual(in_order(again, wished), told)
        self.assertEqual(in_order(((0,) * 3,) * 3, (0, 0, 0)), ((0,) * 3,) * 3)

    def test_told_by_hand(self):
        self.assertEqual(in_order(((5,), (0,), (2,)), (2, 5, 0)), ((2,), (5,), (0,)))
        self.assertEqual(in_order(((7,),), (7,)), ((7,),))
        self.assertEqual(in_order(((3, 1, 2), (2, 4, 1)), (7, 6)), ((4, 1, 2), (1, 4, 1)))


class TestToFirstAndToLast(unittest.TestCase):
    def hold_small(self, hall, chance):
        for _ in range(3):
            self.assertEqual(at_random_to_the_end(one_back, hall, chance), to_first(hall))
            self.assertEqual(at_random_to_the_end(one_on, hall, chance), to_last(hall))

    def test_by_single_moves_in_a_random_order(self):
        chance = random.Random(7)
        for hall in halls_at_random(8, 120, [noughts, small], 5):
            self.hold_small(hall, chance)

    def test_all_small_halls(self):
        chance = random.Random(9)
        for hall in small_halls(3, 2, 1) + small_halls(2, 3, 1) + small_halls(4, 1, 2) + small_halls(1, 2, 2):
            self.hold_small(hall, chance)

    def test_by_moves_of_many_in_a_random_order(self):
        chance = random.Random(10)
        for hall in halls_at_random(11, 100, [great, middling, noughts]):
            for which, end in ((1, to_first(hall)), (0, to_last(hall))):
                told = hall
                while found := [i for i in range(len(hall) - 1) if can_move(told, i)[which]]:
                    counter = chance.choice(found)
                    many = can_move(told, counter)[which]
                    told = moved(told, counter, -many if which else many)
                self.assertEqual(told, end)

    def test_no_move_is_left(self):
        for hall in sample_halls():
            for counter in range(len(hall) - 1):
                self.assertEqual(can_move(to_first(hall), counter)[1], 0)
                self.assertEqual(can_move(to_last(hall), counter)[0], 0)
            self.assertEqual(to_first(to_first(hall)), to_first(hall))
            self.assertEqual(to_last(to_last(hall)), to_last(hall))

    def test_of_any_hall_led_to_it_is_the_same(self):
        chance = random.Random(12)
        for hall in sample_halls():
            told = hall
            for _ in range(4):
                if len(hall) > 1:
                    counter = chance.randrange(len(hall) - 1)
                    on, off = can_move(told, counter)
                    told = moved(told, counter, chance.randint(-off, on))
                self.assertEqual(to_first(told), to_first(hall))
                self.assertEqual(to_last(told), to_last(hall))
            self.assertEqual(to_first(to_last(hall)), to_first(hall))
            self.assertEqual(to_last(to_first(hall)), to_last(hall))

    def test_the_totals(self):
        for hall in sample_halls():
            first = totals(to_first(hall))
            self.assertEqual(list(first), sorted(first, reverse=True))
            self.assertEqual(totals(to_last(hall)), first[::-1])
            self.assertEqual(sum(first), sum(totals(hall)))

    def test_told_by_hand(self):
        self.assertEqual(to_first(((0,), (4,), (3,))), ((7,), (0,), (0,)))
        self.assertEqual(to_last(((0,), (4,), (3,))), ((0,), (0,), (7,)))
        self.assertEqual(to_first(((3, 0, 4),)), ((3, 0, 4),))
        self.assertEqual(to_last(((3, 0, 4),)), ((3, 0, 4),))
        self.assertEqual(to_first(((0, 1), (1, 0))), ((0, 1), (1, 0)))
        self.assertEqual(to_last(((0, 1), (1, 0))), ((0, 1), (1, 0)))
        self.assertEqual(to_first(((1, 0), (0, 1))), ((1, 1), (0, 0)))
        self.assertEqual(to_last(((1, 0), (0, 1))), ((0, 0), (1, 1)))


class TestSettled(unittest.TestCase):
    def test_just_where_no_single_move_back_can_be_done(self):
        for hall in sample_halls() + small_halls(3, 2, 1) + small_halls(2, 3, 1):
            free = all(one_back(hall, counter) is None for counter in range(len(hall) - 1))
            self.assertIs(settled(hall), free)
            self.assertIs(settled(hall), hall == to_first(hall))
            self.assertIs(settled(to_first(hall)), True)

    def test_told_by_hand(self):
        self.assertIs(settled(((3, 0, 4),)), True)
        self.assertIs(settled(((0,),)), True)
        self.assertIs(settled(((0,) * 8,) * 8), True)
        self.assertIs(settled(((4,), (0,))), True)
        self.assertIs(settled(((4,), (1,))), False)
        self.assertIs(settled(((0, 1), (1, 0))), True)
        self.assertIs(settled(((1, 0), (0, 1))), False)
        self.assertIs(settled(((1,), (0,), (1,))), False)


class TestFewest(unittest.TestCase):
    def hold(self, hall):
        told = fewest(hall)
        self.assertIs(type(told), tuple)
        many, cells = told
        self.assertIs(type(cells), list)
        self.assertTrue(all(type(cell) is tuple for cell in cells))
        self.assertEqual(many, sum(total > 0 for total in totals(to_first(hall))))
        self.assertEqual(len(cells), many)
        for counter, customer in cells:
            self.assertGreater(hall[counter][customer], 0)
        for (counter, customer), (further, ahead) in zip(cells, cells[1:]):
            self.assertLess(counter, further)
            self.assertGreater(customer, ahead)
        return many

    def test_sample_halls(self):
        for hall in sample_halls():
            self.hold(hall)

    def test_halls_of_many_noughts(self):
        met = {self.hold(((1,) * 8,) * 8)}
        chance = random.Random(13)
        for _ in range(1500):
            often = chance.randint(1, 9)
            hall = hall_of_kind(
                chance, chance.randint(1, 8), chance.randint(1, 8), lambda told: int(told.randrange(10) >= often)
            )
            met.add(self.hold(hall))
        self.assertEqual(met, set(range(9)))

    def test_no_two_of_the_cells_lie_on_one_way(self):
        for hall in halls_at_random(14, 60, [noughts, small], 5):
            _, cells = fewest(hall)
            for way in ways_of(len(hall), 0, len(hall[0]) - 1):
                self.assertLessEqual(len(set(way) & set(cells)), 1)

    def test_no_hall_led_to_has_work_at_fewer_counters(self):
        for hall in small_halls(3, 2, 1) + small_halls(2, 3, 1) + list(halls_at_random(15, 12, [noughts], 3)):
            if sum(totals(hall)) <= 9:
                at_work = [sum(total > 0 for total in totals(told)) for told in led_by_moves(hall)]
                self.assertEqual(self.hold(hall), min(at_work))

    def test_told_by_hand(self):
        self.assertEqual(fewest(((0, 0), (0, 0))), (0, []))
        self.assertEqual(fewest(((5,),)), (1, [(0, 0)]))
        self.assertEqual(fewest(((0, 1), (1, 0))), (2, [(0, 1), (1, 0)]))
        self.assertEqual(fewest(((0, 0, 1), (0, 1, 0), (1, 0, 0))), (3, [(0, 2), (1, 1), (2, 0)]))
        self.assertEqual(fewest(((1, 0), (0, 1)))[0], 1)


if __name__ == "__main__":
    unittest.main()
