"""Between customers: turned_about, customer_move, customer_back, exchanged_customers ([22])."""

import random
import unittest

from movedminutes.customers import customer_back, customer_move, exchanged_customers, turned_about
from movedminutes.moves import back, can_move, move, moved
from movedminutes.roads import led, many_led
from movedminutes.sums import exchanged, totals
from movedminutes.towers import towers
from tests.one_by_one import led_between, one_back, one_on, turned
from tests.samples import KINDS, noughts, sample_halls, small, small_halls
from tests.test_moves import halls_at_random


def neighbour_customers(halls):
    for hall in halls:
        for customer in range(len(hall[0]) - 1):
            yield hall, customer


def sums_of_customers(hall):
    return [sum(row[k] for row in hall) for k in range(len(hall[0]))]


def turned_if_any(told):
    return None if told is None else turned(told)


def tried(step, hall, number):
    """What a step tells of a hall, None also where there is no hall."""
    return None if hall is None else step(hall, number)


class TestTurnedAbout(unittest.TestCase):
    def test_cell_by_cell(self):
        for hall in sample_halls():
            told = turned_about(hall)
            self.assertIs(type(told), tuple)
            self.assertEqual(len(told), len(hall[0]))
            for k, row in enumerate(told):
                self.assertIs(type(row), tuple)
                self.assertEqual(len(row), len(hall))
                for i, minutes in enumerate(row):
                    self.assertEqual(minutes, hall[i][k])

    def test_twice_it_is_the_hall(self):
        for hall in sample_halls():
            self.assertEqual(turned_about(turned_about(hall)), hall)

    def test_the_towers_change_places(self):
        for hall in sample_halls()[::3]:
            self.assertEqual(towers(turned_about(hall)), towers(hall)[::-1])

    def test_told_by_hand(self):
        self.assertEqual(turned_about(((3, 1, 2), (2, 4, 1))), ((3, 2), (1, 4), (2, 1)))
        self.assertEqual(turned_about(((7,),)), ((7,),))
        self.assertEqual(turned_about(((1, 0, 2),)), ((1,), (0,), (2,)))
        self.assertEqual(turned_about(((1,), (0,), (2,))), ((1, 0, 2),))


class TestBetweenCustomers(unittest.TestCase):
    def hold(self, hall, customer):
        about = turned(hall)
        self.assertEqual(customer_move(hall, customer), turned_if_any(one_on(about, customer)))
        self.assertEqual(customer_back(hall, customer), turned_if_any(one_back(about, customer)))
        self.assertEqual(customer_move(hall, customer), turned_if_any(move(about, customer)))
        self.assertEqual(customer_back(hall, customer), turned_if_any(back(about, customer)))
        self.assertEqual(exchanged_customers(hall, customer), turned(exchanged(about, customer)))

    def test_by_single_moves_of_the_hall_turned_about(self):
        for hall, customer in neighbour_customers(sample_halls()):
            self.hold(hall, customer)

    def test_many_of_like_lead(self):
        for hall, customer in neighbour_customers(halls_at_random(1, 300, [noughts, small], 5)):
            self.hold(hall, customer)

    def test_all_small_halls(self):
        for hall, customer in neighbour_customers(small_halls(3, 2, 2) + small_halls(2, 3, 1) + small_halls(1, 2, 3)):
            self.hold(hall, customer)

    def test_exchanged_by_all_halls_that_single_moves_lead_to(self):
        for hall, customer in neighbour_customers(halls_at_random(2, 120, [noughts, small], 5)):
            wished = sums_of_customers(hall)
            wished[customer], wished[customer + 1] = wished[customer + 1], wished[customer]
            found = [
                turned(told) for told in led_between(turned(hall), customer).values()
                if list(totals(told)) == wished
            ]
            self.assertEqual([exchanged_customers(hall, customer)], found)

    def test_exchanged_the_sums_change_places_and_twice_it_is_the_hall(self):
        for hall, customer in neighbour_customers(sample_halls()):
            told = exchanged_customers(hall, customer)
            wished = sums_of_customers(hall)
            wished[customer], wished[customer + 1] = wished[customer + 1], wished[customer]
            self.assertEqual(sums_of_customers(told), wished)
            self.assertEqual(exchanged_customers(told, customer), hall)

    def test_a_move_back_undoes_a_move_and_the_other_way_about(self):
        for hall, customer in neighbour_customers(sample_halls()):
            on, off = customer_move(hall, customer), customer_back(hall, customer)
            if on is not None:
                self.assertEqual(customer_back(on, customer), hall)
            if off is not None:
                self.assertEqual(customer_move(off, customer), hall)

    def test_noughts_everywhere(self):
        for counters in (1, 2, 8):
            for customers in range(2, 9):
                hall = ((0,) * customers,) * counters
                for customer in range(customers - 1):
                    self.assertIsNone(customer_move(hall, customer))
                    self.assertIsNone(customer_back(hall, customer))
                    self.assertEqual(exchanged_customers(hall, customer), hall)

    def test_told_by_hand(self):
        hall = ((3, 1, 2), (2, 4, 1))
        # Of customers 0 and 1 the leads at the counters are 3 and 4.
        self.assertEqual(customer_move(hall, 0), ((3, 1, 2), (1, 5, 1)))
        self.assertEqual(customer_back(hall, 0), ((3, 1, 2), (3, 3, 1)))
        self.assertEqual(exchanged_customers(hall, 0), hall)
        # Of customers 1 and 2 they are 1 and 3.
        self.assertEqual(customer_move(hall, 1), ((3, 1, 2), (2, 3, 2)))
        self.assertIsNone(customer_move(((0, 4),), 0))
        self.assertEqual(customer_back(((0, 4),), 0), ((1, 3),))
        self.assertEqual(customer_move(((1, 4),), 0), ((0, 5),))
        self.assertIsNone(customer_back(((4, 0),), 0))
        self.assertEqual(exchanged_customers(((1, 4),), 0), ((4, 1),))


class TestPastOneAnother(unittest.TestCase):
    def hold(self, hall, counter, customer):
        """Hold that single moves between counters and between customers go past one another."""
        for step in (move, back):
            for other in (customer_move, customer_back):
                one, told = step(hall, counter), other(hall, customer)
                both, other_both = tried(other, one, customer), tried(step, told, counter)
                if one is not None and told is not None:
                    self.assertIsNotNone(both)
                self.assertEqual(both, other_both)
                # The one can be done behind the other just where it can ahead.
                if one is not None:
                    self.assertIs(both is None, told is None)
                if told is not None:
                    self.assertIs(other_both is None, one is None)

    def test_sample_halls(self):
        chance = random.Random(3)
        for hall in sample_halls():
            if len(hall) > 1 and len(hall[0]) > 1:
                for _ in range(3):
                    self.hold(hall, chance.randrange(len(hall) - 1), chance.randrange(len(hall[0]) - 1))

    def test_small_halls_between_whichever(self):
        halls = small_halls(2, 2, 3) + small_halls(3, 2, 1) + small_halls(2, 3, 1) + small_halls(3, 3, 1)
        for hall in halls + list(halls_at_random(4, 60, [noughts, small], 5)):
            for counter in range(len(hall) - 1):
                for customer in range(len(hall[0]) - 1):
                    self.hold(hall, counter, customer)

    def test_many_moves_and_exchanges(self):
        chance = random.Random(5)
        for hall in halls_at_random(6, 300, KINDS):
            if len(hall) > 1 and len(hall[0]) > 1:
                counter, customer = chance.randrange(len(hall) - 1), chance.randrange(len(hall[0]) - 1)
                on, off = can_move(hall, counter)
                told = exchanged_customers(hall, customer)
                self.assertEqual(can_move(told, counter), (on, off))
                self.assertEqual(exchanged(told, counter), exchanged_customers(exchanged(hall, counter), customer))
                for many in (on, -off, chance.randint(-off, on)):
                    one = exchanged_customers(moved(hall, counter, many), customer)
                    self.assertEqual(moved(told, counter, many), one)

    def test_what_each_of_them_leaves(self):
        for hall, customer in neighbour_customers(sample_halls()):
            for told in (
                customer_move(hall, customer), customer_back(hall, customer), exchanged_customers(hall, customer),
            ):
                if told is not None:
                    self.assertEqual(totals(told), totals(hall))
                    self.assertEqual(towers(told)[1], towers(hall)[1])
                    self.assertEqual(many_led(told), many_led(hall))
                    self.assertIs(led(turned_about(told), turned_about(hall)), True)
        for hall in sample_halls():
            for counter in range(len(hall) - 1):
                for told in (move(hall, counter), back(hall, counter), exchanged(hall, counter)):
                    if told is not None:
                        self.assertEqual(sums_of_customers(told), sums_of_customers(hall))


if __name__ == "__main__":
    unittest.main()
