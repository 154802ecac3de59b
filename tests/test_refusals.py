"""What each function refuses, and in which order ([3], [8])."""

import itertools
import unittest

from movedminutes import errors
from movedminutes.covers import cover, covered, not_led
from movedminutes.halls import held_by, last, leavings, waits
from movedminutes.moves import back, can_move, move, moved
from movedminutes.sums import exchanged, fewest, in_order, settled, to_first, to_last, totals, with_total
from movedminutes.towers import hall_of, towers
from movedminutes.ways import alike, best_way, greatest, parting, spare
from tests.samples import WRONG_HALLS, WRONG_WHOLES, wrong_days, wrong_numbers, wrong_totals
from tests.tower_samples import BY_COUNTERS, BY_CUSTOMERS, WRONG_BY_COUNTERS, WRONG_BY_CUSTOMERS

HALL = ((3, 1, 2), (2, 4, 1))
COUNTERS, CUSTOMERS = 2, 3

# What is handed in, by what it is asked to be: the neighbour is a counter with a
# next one, the like a hall of as many counters and customers.
REFUSED = {
    "hall": errors.NoHall, "other": errors.NoHall, "like": errors.NoHall, "day": errors.NoDay,
    "customer": errors.NoCustomer, "first": errors.NoCustomer, "last_one": errors.NoCustomer,
    "counter": errors.NoCounter, "neighbour": errors.NoCounter,
    "moves": errors.NoNumber, "total": errors.NoNumber, "totals_wished": errors.NoTotals,
    "many": errors.NoMany, "customers": errors.NoCustomers,
    "by_customers": errors.NoTowers, "by_counters": errors.NoTowers,
}
RIGHT = {
    "hall": HALL, "other": ((1, 1, 1),), "like": ((0, 0, 0), (9, 9, 9)), "day": [0, 0, 9],
    "customer": 1, "first": 1, "last_one": 2, "counter": 1, "neighbour": 0,
    "moves": -1, "total": 5, "totals_wished": (7, 6), "many": 2, "customers": 3,
    "by_customers": BY_CUSTOMERS, "by_counters": BY_COUNTERS,
}
WRONG = {
    "hall": WRONG_HALLS, "other": WRONG_HALLS, "like": WRONG_HALLS, "day": wrong_days(CUSTOMERS),
    "customer": wrong_numbers(CUSTOMERS), "first": wrong_numbers(CUSTOMERS),
    "last_one": wrong_numbers(CUSTOMERS), "counter": wrong_numbers(COUNTERS),
    "neighbour": wrong_numbers(COUNTERS - 1),
    "moves": WRONG_WHOLES, "total": WRONG_WHOLES + [-1, -6, -(10 ** 40)], "totals_wished": wrong_totals((7, 6)),
    "many": wrong_numbers(min(COUNTERS, CUSTOMERS) + 1), "customers": wrong_numbers(CUSTOMERS + 1),
    "by_customers": WRONG_BY_CUSTOMERS, "by_counters": WRONG_BY_COUNTERS,
}
FUNCTIONS = [
    (leavings, ["hall", "day"]), (last, ["hall", "day"]), (waits, ["hall", "day"]),
    (held_by, ["hall", "day", "customer"]),
    (greatest, ["hall", "first", "last_one"]), (best_way, ["hall", "first", "last_one"]),
    (alike, ["hall", "other"]), (parting, ["hall", "other"]), (spare, ["hall", "counter", "customer"]),
    (move, ["hall", "neighbour"]), (back, ["hall", "neighbour"]), (can_move, ["hall", "neighbour"]),
    (moved, ["hall", "neighbour", "moves"]),
    (totals, ["hall"]), (with_total, ["hall", "neighbour", "total"]), (exchanged, ["hall", "neighbour"]),
    (in_order, ["hall", "totals_wished"]), (to_first, ["hall"]), (to_last, ["hall"]), (settled, ["hall"]),
    (fewest, ["hall"]),
    (covered, ["hall", "many", "customers"]), (cover, ["hall", "many", "customers"]),
    (not_led, ["hall", "like"]),
    (towers, ["hall"]), (hall_of, ["by_customers", "by_counters"]),
]


class Refusing(unittest.TestCase):
    def refuse(self, kind, function, *told):
        """Hold that just this class is raised, and nothing that stands under it."""
        with self.assertRaises(errors.HallError) as caught:
            function(*told)
        self.assertIs(type(caught.exception), kind)
        self.assertIsInstance(caught.exception, ValueError)


class TestRefusals(Refusing):
    def test_the_right_ones_are_not_refused(self):
        for function, names in FUNCTIONS:
            function(*[RIGHT[name] for name in names])

    def test_each_wrong_by_itself(self):
        for function, names in FUNCTIONS:
            for at, name in enumerate(names):
                for which, wrong in enumerate(WRONG[name]):
                    told = [RIGHT[other] for other in names]
                    told[at] = wrong
                    with self.subTest(function=function.__name__, name=name, which=which):
                        self.refuse(REFUSED[name], function, *told)

    def test_of_several_the_first_is_raised(self):
        for function, names in FUNCTIONS:
            for many in range(2, len(names) + 1):
                for wrong_names in itertools.combinations(names, many):
                    choices = [
                        WRONG[name][::7] if name in wrong_names else [RIGHT[name]] for name in names
                    ]
                    for told in itertools.product(*choices):
                        self.refuse(REFUSED[wrong_names[0]], function, *told)

    def test_numbers_at_the_edge(self):
        hall = ((1, 2, 3, 4),) * 3
        self.assertEqual(held_by(hall, [0] * 4, 3)[-1], (2, 3))
        self.refuse(errors.NoCustomer, held_by, hall, [0] * 4, 4)
        self.refuse(errors.NoCustomer, greatest, hall, 4, 4)
        self.refuse(errors.NoCustomer, greatest, hall, 0, 4)
        self.refuse(errors.NoCustomer, best_way, hall, 0, 4)
        self.assertEqual(spare(hall, 2, 3), 0)
        self.refuse(errors.NoCounter, spare, hall, 3, 0)
        self.refuse(errors.NoCounter, spare, hall, 3, 4)
        self.refuse(errors.NoCustomer, spare, hall, 2, 4)

    def test_a_first_customer_greater_than_the_last_one(self):
        for function in (greatest, best_way):
            for first in range(CUSTOMERS):
                for last_one in range(first):
                    self.refuse(errors.NoCustomer, function, HALL, first, last_one)
                    self.refuse(errors.NoHall, function, list(HALL), first, last_one)

    def test_days_of_a_hall_of_other_many_customers(self):
        for function in (leavings, last, waits):
            self.refuse(errors.NoDay, function, HALL, [0, 0])
            self.refuse(errors.NoDay, function, HALL, [0, 0, 0, 0])
            self.refuse(errors.NoDay, function, ((1,),), [])

    def test_days_that_fall(self):
        for function in (leavings, last, waits):
            for day in ([1, 0, 5], [0, 5, 4], [2, 1, 0], [10 ** 15, 10 ** 15 - 1, 10 ** 15]):
                self.refuse(errors.NoDay, function, HALL, day)
        self.assertEqual(last(((0, 0, 0),), [4, 4, 4]), [4, 4, 4])

    def test_halls_of_other_many_customers(self):
        for function in (alike, parting):
            for many in range(1, 9):
                if many != CUSTOMERS:
                    self.refuse(errors.Unlike, function, HALL, ((0,) * many,))
                    self.refuse(errors.Unlike, function, ((0,) * many,), HALL)

    def test_a_wrong_hall_goes_before_unlike(self):
        for function in (alike, parting):
            for wrong in (((1, 2), (3, True)), ((1, 2), (3, -1)), ((1,), (2, 3)), ((1,),) * 9, [(1, 2)]):
                self.refuse(errors.NoHall, function, HALL, wrong)
                self.refuse(errors.NoHall, function, wrong, HALL)
                self.refuse(errors.NoHall, function, wrong, wrong)


class TestNeighbours(Refusing):
    def test_the_last_counter_has_no_next_one(self):
        for counters in range(1, 9):
            hall = ((1, 2),) * counters
            for function in (move, back, can_move, exchanged):
                for counter in range(counters - 1):
                    function(hall, counter)
                for counter in (counters - 1, counters, -1, -counters, True, False):
                    self.refuse(errors.NoCounter, function, hall, counter)
            for function in (moved, with_total):
                for counter in (counters - 1, counters, -1, -counters, True, False):
                    self.refuse(errors.NoCounter, function, hall, counter, 0)
                    self.refuse(errors.NoCounter, function, hall, counter, None)


class TestNumbers(Refusing):
    def test_a_whole_number_below_nought_is_one_of_moves_and_no_total(self):
        self.assertEqual(moved(HALL, 0, -1), back(HALL, 0))
        self.assertIsNone(moved(HALL, 0, -100))
        self.refuse(errors.NoNumber, with_total, HALL, 0, -1)
        self.refuse(errors.NoNumber, with_total, HALL, 0, -100)

    def test_truths_are_no_numbers(self):
        for truth in (True, False):
            self.refuse(errors.NoNumber, moved, HALL, 0, truth)
            self.refuse(errors.NoNumber, with_total, HALL, 0, truth)
            self.refuse(errors.NoMany, covered, HALL, truth, 1)
            self.refuse(errors.NoCustomers, cover, HALL, 1, truth)


class TestTotals(Refusing):
    def test_none_of_the_halls_totals_in_another_order(self):
        hall = ((1, 2), (0, 0), (4, 4), (2, 1))
        self.assertEqual(in_order(hall, (0, 3, 3, 8))[0], (0, 0))
        for wrong in (
            (3, 0, 8, 4), (3, 3, 3, 8), (0, 0, 3, 8), (0, 3, 8, 8), (0, 0, 0, 14), (1, 2, 3, 8), (0, 0, 0, 0),
            (0, 3, 3, 10 ** 40), (3, 2, 8, 1),
        ):
            self.refuse(errors.Unlike, in_order, hall, wrong)

    def test_what_is_no_totals_goes_before_unlike(self):
        hall = ((1, 2), (0, 0))
        for wrong in ([3, 0], (3,), (3, 0, 0), (-3, 6), (3, False), (9, True), (9, -1), (9, "3"), (), None):
            self.refuse(errors.NoTotals, in_order, hall, wrong)


class TestBounds(Refusing):
    def test_ways_up_to_the_lesser_and_customers_up_to_all(self):
        for counters in range(1, 9):
            for customers in range(1, 9):
                hall = ((1,) * customers,) * counters
                lesser = min(counters, customers)
                for function in (covered, cover):
                    function(hall, lesser, customers)
                    function(hall, 0, 0)
                    for many in (lesser + 1, max(counters, customers) + 1, -1, True):
                        self.refuse(errors.NoMany, function, hall, many, customers)
                        self.refuse(errors.NoMany, function, hall, many, customers + 1)
                    for wrong in (customers + 1, -1, True, None):
                        self.refuse(errors.NoCustomers, function, hall, lesser, wrong)
                        self.refuse(errors.NoCustomers, function, hall, 0, wrong)


class TestUnlike(Refusing):
    def test_halls_of_other_many_customers_or_counters(self):
        for counters in range(1, 9):
            for customers in range(1, 9):
                told = ((0,) * customers,) * counters
                if (counters, customers) != (COUNTERS, CUSTOMERS):
                    self.refuse(errors.Unlike, not_led, HALL, told)
                    self.refuse(errors.Unlike, not_led, told, HALL)
        self.assertIsNone(not_led(HALL, HALL))

    def test_a_wrong_hall_goes_first(self):
        for wrong in (((1, 2), (3, True)), ((1,), (2, 3)), [(1, 2)], None):
            self.refuse(errors.NoHall, not_led, HALL, wrong)
            self.refuse(errors.NoHall, not_led, wrong, HALL)


if __name__ == "__main__":
    unittest.main()
