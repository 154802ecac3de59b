"""What each function refuses, and in which order ([3], [8])."""

import itertools
import unittest

from movedminutes import errors
from movedminutes.halls import held_by, last, leavings, waits
from movedminutes.ways import alike, best_way, greatest, parting, spare
from tests.samples import WRONG_HALLS, wrong_days, wrong_numbers

HALL = ((3, 1, 2), (2, 4, 1))
COUNTERS, CUSTOMERS = 2, 3

REFUSED = {
    "hall": errors.NoHall, "other": errors.NoHall, "day": errors.NoDay, "customer": errors.NoCustomer,
    "first": errors.NoCustomer, "last_one": errors.NoCustomer, "counter": errors.NoCounter,
}
RIGHT = {
    "hall": HALL, "other": ((1, 1, 1),), "day": [0, 0, 9], "customer": 1, "first": 1, "last_one": 2,
    "counter": 1,
}
WRONG = {
    "hall": WRONG_HALLS, "other": WRONG_HALLS, "day": wrong_days(CUSTOMERS),
    "customer": wrong_numbers(CUSTOMERS), "first": wrong_numbers(CUSTOMERS),
    "last_one": wrong_numbers(CUSTOMERS), "counter": wrong_numbers(COUNTERS),
}
FUNCTIONS = [
    (leavings, ["hall", "day"]), (last, ["hall", "day"]), (waits, ["hall", "day"]),
    (held_by, ["hall", "day", "customer"]),
    (greatest, ["hall", "first", "last_one"]), (best_way, ["hall", "first", "last_one"]),
    (alike, ["hall", "other"]), (parting, ["hall", "other"]), (spare, ["hall", "counter", "customer"]),
]


class TestRefusals(unittest.TestCase):
    def refuse(self, kind, function, *told):
        """Hold that just this class is raised, and nothing that stands under it."""
        with self.assertRaises(errors.HallError) as caught:
            function(*told)
        self.assertIs(type(caught.exception), kind)
        self.assertIsInstance(caught.exception, ValueError)

    def test_the_right_ones_are_not_refused(self):
        for function, names in FUNCTIONS:
            function(*[RIGHT[name] for name in names])

    def test_each_wrong_by_itself(self):
        for function, names in FUNCTIONS:
            for at, name in enumerate(names):
                for which, wrong in enumerate(WRONG[name]):
                    told = [RIGHT[other] for other in names]
                    told[at] = wrong
                    with self.subTest(function=function.__name__, name=name, which=which):
                        self.refuse(REFUSED[name], function, *told)

    def test_of_several_the_first_is_raised(self):
        for function, names in FUNCTIONS:
            for many in range(2, len(names) + 1):
                for wrong_names in itertools.combinations(names, many):
                    choices = [
                        WRONG[name][::7] if name in wrong_names else [RIGHT[name]] for name in names
                    ]
                    for told in itertools.product(*choices):
                        self.refuse(REFUSED[wrong_names[0]], function, *told)

    def test_numbers_at_the_edge(self):
        hall = ((1, 2, 3, 4),) * 3
        self.assertEqual(held_by(hall, [0] * 4, 3)[-1], (2, 3))
        self.refuse(errors.NoCustomer, held_by, hall, [0] * 4, 4)
        self.refuse(errors.NoCustomer, greatest, hall, 4, 4)
        self.refuse(errors.NoCustomer, greatest, hall, 0, 4)
        self.refuse(errors.NoCustomer, best_way, hall, 0, 4)
        self.assertEqual(spare(hall, 2, 3), 0)
        self.refuse(errors.NoCounter, spare, hall, 3, 0)
        self.refuse(errors.NoCounter, spare, hall, 3, 4)
        self.refuse(errors.NoCustomer, spare, hall, 2, 4)

    def test_a_first_customer_greater_than_the_last_one(self):
        for function in (greatest, best_way):
            for first in range(CUSTOMERS):
                for last_one in range(first):
                    self.refuse(errors.NoCustomer, function, HALL, first, last_one)
                    self.refuse(errors.NoHall, function, list(HALL), first, last_one)

    def test_days_of_a_hall_of_other_many_customers(self):
        for function in (leavings, last, waits):
            self.refuse(errors.NoDay, function, HALL, [0, 0])
            self.refuse(errors.NoDay, function, HALL, [0, 0, 0, 0])
            self.refuse(errors.NoDay, function, ((1,),), [])

    def test_days_that_fall(self):
        for function in (leavings, last, waits):
            for day in ([1, 0, 5], [0, 5, 4], [2, 1, 0], [10 ** 15, 10 ** 15 - 1, 10 ** 15]):
                self.refuse(errors.NoDay, function, HALL, day)
        self.assertEqual(last(((0, 0, 0),), [4, 4, 4]), [4, 4, 4])

    def test_halls_of_other_many_customers(self):
        for function in (alike, parting):
            for many in range(1, 9):
                if many != CUSTOMERS:
                    self.refuse(errors.Unlike, function, HALL, ((0,) * many,))
                    self.refuse(errors.Unlike, function, ((0,) * many,), HALL)

    def test_a_wrong_hall_goes_before_unlike(self):
        for function in (alike, parting):
            for wrong in (((1, 2), (3, True)), ((1, 2), (3, -1)), ((1,), (2, 3)), ((1,),) * 9, [(1, 2)]):
                self.refuse(errors.NoHall, function, HALL, wrong)
                self.refuse(errors.NoHall, function, wrong, HALL)
                self.refuse(errors.NoHall, function, wrong, wrong)


if __name__ == "__main__":
    unittest.main()
