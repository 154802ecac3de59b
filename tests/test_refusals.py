"""What each function refuses, and in which order ([3], [8])."""

import itertools
import unittest

from movedminutes import errors
from movedminutes.covers import cover, covered, not_led
from movedminutes.customers import customer_back, customer_move, exchanged_customers, turned_about
from movedminutes.halls import held_by, last, leavings, waits
from movedminutes.moves import back, can_move, move, moved
from movedminutes.roads import all_led, led, many_led, road, with_totals
from movedminutes.rooms import blocked, is_seen, seen_day
from movedminutes.sums import exchanged, fewest, in_order, settled, to_first, to_last, totals, with_total
from movedminutes.texts import (
    read_day, read_hall, read_road, read_tower, read_way, show_day, show_hall, show_road, show_tower, show_way,
)
from movedminutes.towers import hall_of, towers
from movedminutes.ways import alike, best_way, greatest, parting, spare
from tests.samples import WRONG_HALLS, WRONG_WHOLES, wrong_days, wrong_numbers, wrong_totals
from tests.text_samples import (
    WRONG_DAY_TEXTS, WRONG_HALL_TEXTS, WRONG_ROAD_TEXTS, WRONG_ROADS, WRONG_SOME_DAYS, WRONG_SOME_TOWERS,
    WRONG_TOWER_TEXTS, WRONG_WAY_TEXTS, WRONG_WAYS,
)
from tests.tower_samples import BY_COUNTERS, BY_CUSTOMERS, WRONG_BY_COUNTERS, WRONG_BY_CUSTOMERS

HALL = ((3, 1, 2), (2, 4, 1))
COUNTERS, CUSTOMERS = 2, 3

# What is handed in, by what it is asked to be: the neighbour is a counter with a
# next one, the former a customer with one behind, the like a hall of as many
# counters and customers.
REFUSED = {
    "hall": errors.NoHall, "other": errors.NoHall, "like": errors.NoHall, "day": errors.NoDay,
    "customer": errors.NoCustomer, "first": errors.NoCustomer, "last_one": errors.NoCustomer,
    "counter": errors.NoCounter, "neighbour": errors.NoCounter,
    "moves": errors.NoNumber, "total": errors.NoNumber, "totals_wished": errors.NoTotals,
    "many": errors.NoMany, "customers": errors.NoCustomers,
    "by_customers": errors.NoTowers, "by_counters": errors.NoTowers,
    "former": errors.NoCustomer, "room": errors.NoRoom,
    "some_day": errors.NoDay, "way": errors.NoWay, "some_tower": errors.NoTowers, "road": errors.NoRoad,
    "hall_text": errors.NoText, "day_text": errors.NoText, "way_text": errors.NoText,
    "tower_text": errors.NoText, "road_text": errors.NoText,
}
RIGHT = {
    "hall": HALL, "other": ((1, 1, 1),), "like": ((0, 0, 0), (9, 9, 9)), "day": [0, 0, 9],
    "customer": 1, "first": 1, "last_one": 2, "counter": 1, "neighbour": 0,
    "moves": -1, "total": 5, "totals_wished": (7, 6), "many": 2, "customers": 3,
    "by_customers": BY_CUSTOMERS, "by_counters": BY_COUNTERS,
    "former": 1, "room": 0,
    "some_day": [0, 9], "way": [(0, 1), (1, 1)], "some_tower": BY_CUSTOMERS, "road": [(0, -1)],
    "hall_text": "3 1 2/2 4 1", "day_text": "0 9", "way_text": "0.1-1.1", "tower_text": "5|9 1|10 3",
    "road_text": "0:-1",
}
WRONG = {
    "hall": WRONG_HALLS, "other": WRONG_HALLS, "like": WRONG_HALLS, "day": wrong_days(CUSTOMERS),
    "customer": wrong_numbers(CUSTOMERS), "first": wrong_numbers(CUSTOMERS),
    "last_one": wrong_numbers(CUSTOMERS), "counter": wrong_numbers(COUNTERS),
    "neighbour": wrong_numbers(COUNTERS - 1),
    "moves": WRONG_WHOLES, "total": WRONG_WHOLES + [-1, -6, -(10 ** 40)], "totals_wished": wrong_totals((7, 6)),
    "many": wrong_numbers(min(COUNTERS, CUSTOMERS) + 1), "customers": wrong_numbers(CUSTOMERS + 1),
    "by_customers": WRONG_BY_CUSTOMERS, "by_counters": WRONG_BY_COUNTERS,
    "former": wrong_numbers(CUSTOMERS - 1), "room": WRONG_WHOLES + [-1, -8, -(10 ** 40)],
    "some_day": WRONG_SOME_DAYS, "way": WRONG_WAYS, "some_tower": WRONG_SOME_TOWERS, "road": WRONG_ROADS,
    "hall_text": WRONG_HALL_TEXTS, "day_text": WRONG_DAY_TEXTS, "way_text": WRONG_WAY_TEXTS,
    "tower_text": WRONG_TOWER_TEXTS, "road_text": WRONG_ROAD_TEXTS,
}
FUNCTIONS = [
    (leavings, ["hall", "day"]), (last, ["hall", "day"]), (waits, ["hall", "day"]),
    (held_by, ["hall", "day", "customer"]),
    (greatest, ["hall", "first", "last_one"]), (best_way, ["hall", "first", "last_one"]),
    (alike, ["hall", "other"]), (parting, ["hall", "other"]), (spare, ["hall", "counter", "customer"]),
    (move, ["hall", "neighbour"]), (back, ["hall", "neighbour"]), (can_move, ["hall", "neighbour"]),
    (moved, ["hall", "neighbour", "moves"]),
    (totals, ["hall"]), (with_total, ["hall", "neighbour", "total"]), (exchanged, ["hall", "neighbour"]),
    (in_order, ["hall", "totals_wished"]), (to_first, ["hall"]), (to_last, ["hall"]), (settled, ["hall"]),
    (fewest, ["hall"]),
    (covered, ["hall", "many", "customers"]), (cover, ["hall", "many", "customers"]),
    (not_led, ["hall", "like"]),
    (towers, ["hall"]), (hall_of, ["by_customers", "by_counters"]),
    (led, ["hall", "like"]), (road, ["hall", "like"]), (all_led, ["hall"]), (many_led, ["hall"]),
    (with_totals, ["hall", "totals_wished"]),
    (turned_about, ["hall"]), (customer_move, ["hall", "former"]), (customer_back, ["hall", "former"]),
    (exchanged_customers, ["hall", "former"]),
    (blocked, ["hall", "day", "room"]), (is_seen, ["hall", "neighbour", "day", "room"]),
    (seen_day, ["hall", "neighbour", "room"]),
    (show_hall, ["hall"]), (show_day, ["some_day"]), (show_way, ["way"]), (show_tower, ["some_tower"]),
    (show_road, ["road"]),
    (read_hall, ["hall_text"]), (read_day, ["day_text"]), (read_way, ["way_text"]), (read_tower, ["tower_text"]),
    (read_road, ["road_text"]),
]


class Refusing(unittest.TestCase):
    def refuse(self, kind, function, *told):
        """Hold that just this class is raised, and nothing that stands under it."""
        with self.assertRaises(errors.HallError) as caught:
            function(*told)
        self.assertIs(type(caught.exception), kind)
        self.assertIsInstance(caught.exception, ValueError)


class TestRefusals(Refusing):
    def test_the_right_ones_are_not_refused(self):
        for function, names in FUNCTIONS:
            function(*[RIGHT[name] for name in names])

    def test_each_wrong_by_itself(self):
        for function, names in FUNCTIONS:
            for at, name in enumerate(names):
                for which, wrong in enumerate(WRONG[name]):
                    told = [RIGHT[other] for other in names]
                    told[at] = wrong
                    with self.subTest(function=function.__name__, name=name, which=which):
                        self.refuse(REFUSED[name], function, *told)

    def test_of_several_the_first_is_raised(self):
        for function, names in FUNCTIONS:
            for many in range(2, len(names) + 1):
                for wrong_names in itertools.combinations(names, many):
                    choices = [
                        WRONG[name][::7] if name in wrong_names else [RIGHT[name]] for name in names
                    ]
                    for told in itertools.product(*choices):
                        self.refuse(REFUSED[wrong_names[0]], function, *told)

    def test_numbers_at_the_edge(self):
        hall = ((1, 2, 3, 4),) * 3
        self.assertEqual(held_by(hall, [0] * 4, 3)[-1], (2, 3))
        self.refuse(errors.NoCustomer, held_by, hall, [0] * 4, 4)
        self.refuse(errors.NoCustomer, greatest, hall, 4, 4)
        self.refuse(errors.NoCustomer, greatest, hall, 0, 4)
        self.refuse(errors.NoCustomer, best_way, hall, 0, 4)
        self.assertEqual(spare(hall, 2, 3), 0)
        self.refuse(errors.NoCounter, spare, hall, 3, 0)
        self.refuse(errors.NoCounter, spare, hall, 3, 4)
        self.refuse(errors.NoCustomer, spare, hall, 2, 4)

    def test_a_first_customer_greater_than_the_last_one(self):
        for function in (greatest, best_way):
            for first in range(CUSTOMERS):
                for last_one in range(first):
                    self.refuse(errors.NoCustomer, function, HALL, first, last_one)
                    self.refuse(errors.NoHall, function, list(HALL), first, last_one)

    def test_days_of_a_hall_of_other_many_customers(self):
        for function in (leavings, last, waits):
            self.refuse(errors.NoDay, function, HALL, [0, 0])
            self.refuse(errors.NoDay, function, HALL, [0, 0, 0, 0])
            self.refuse(errors.NoDay, function, ((1,),), [])

    def test_days_that_fall(self):
        for function in (leavings, last, waits):
            for day in ([1, 0, 5], [0, 5, 4], [2, 1, 0], [10 ** 15, 10 ** 15 - 1, 10 ** 15]):
                self.refuse(errors.NoDay, function, HALL, day)
        self.assertEqual(last(((0, 0, 0),), [4, 4, 4]), [4, 4, 4])

    def test_halls_of_other_many_customers(self):
        for function in (alike, parting):
            for many in range(1, 9):
                if many != CUSTOMERS:
                    self.refuse(errors.Unlike, function, HALL, ((0,) * many,))
                    self.refuse(errors.Unlike, function, ((0,) * many,), HALL)

    def test_a_wrong_hall_goes_before_unlike(self):
        for function in (alike, parting):
            for wrong in (((1, 2), (3, True)), ((1, 2), (3, -1)), ((1,), (2, 3)), ((1,),) * 9, [(1, 2)]):
                self.refuse(errors.NoHall, function, HALL, wrong)
                self.refuse(errors.NoHall, function, wrong, HALL)
                self.refuse(errors.NoHall, function, wrong, wrong)


class TestNeighbours(Refusing):
    def test_the_last_counter_has_no_next_one(self):
        for counters in range(1, 9):
            hall = ((1, 2),) * counters
            for function in (move, back, can_move, exchanged):
                for counter in range(counters - 1):
                    function(hall, counter)
                for counter in (counters - 1, counters, -1, -counters, True, False):
                    self.refuse(errors.NoCounter, function, hall, counter)
            for function in (moved, with_total, seen_day):
                for counter in (counters - 1, counters, -1, -counters, True, False):
                    self.refuse(errors.NoCounter, function, hall, counter, 0)
                    self.refuse(errors.NoCounter, function, hall, counter, None)
            for counter in (counters - 1, counters, -1, -counters, True, False):
                self.refuse(errors.NoCounter, is_seen, hall, counter, [0, 0], 0)
                self.refuse(errors.NoCounter, is_seen, hall, counter, None, None)

    def test_the_last_customer_has_none_behind(self):
        for customers in range(1, 9):
            hall = ((1,) * customers, (2,) * customers)
            for function in (customer_move, customer_back, exchanged_customers):
                for customer in range(customers - 1):
                    function(hall, customer)
                for customer in (customers - 1, customers, -1, -customers, True, False):
                    self.refuse(errors.NoCustomer, function, hall, customer)


class TestNumbers(Refusing):
    def test_a_whole_number_below_nought_is_one_of_moves_and_no_total(self):
        self.assertEqual(moved(HALL, 0, -1), back(HALL, 0))
        self.assertIsNone(moved(HALL, 0, -100))
        self.refuse(errors.NoNumber, with_total, HALL, 0, -1)
        self.refuse(errors.NoNumber, with_total, HALL, 0, -100)

    def test_truths_are_no_numbers(self):
        for truth in (True, False):
            self.refuse(errors.NoNumber, moved, HALL, 0, truth)
            self.refuse(errors.NoNumber, with_total, HALL, 0, truth)
            self.refuse(errors.NoMany, covered, HALL, truth, 1)
            self.refuse(errors.NoCustomers, cover, HALL, 1, truth)


class TestTotals(Refusing):
    def test_none_of_the_halls_totals_in_another_order(self):
        hall = ((1, 2), (0, 0), (4, 4), (2, 1))
        self.assertEqual(in_order(hall, (0, 3, 3, 8))[0], (0, 0))
        for wrong in (
            (3, 0, 8, 4), (3, 3, 3, 8), (0, 0, 3, 8), (0, 3, 8, 8), (0, 0, 0, 14), (1, 2, 3, 8), (0, 0, 0, 0),
            (0, 3, 3, 10 ** 40), (3, 2, 8, 1),
        ):
            self.refuse(errors.Unlike, in_order, hall, wrong)

    def test_what_is_no_totals_goes_before_unlike(self):
        hall = ((1, 2), (0, 0))
        for wrong in ([3, 0], (3,), (3, 0, 0), (-3, 6), (3, False), (9, True), (9, -1), (9, "3"), (), None):
            self.refuse(errors.NoTotals, in_order, hall, wrong)
            self.refuse(errors.NoTotals, with_totals, hall, wrong)

    def test_totals_that_no_hall_led_to_has_are_not_refused(self):
        hall = ((1, 2), (0, 0))
        for told in ((9, 9), (0, 0), (4, 0), (0, 4), (10 ** 40, 0)):
            self.assertIsNone(with_totals(hall, told))


class TestBounds(Refusing):
    def test_ways_up_to_the_lesser_and_customers_up_to_all(self):
        for counters in range(1, 9):
            for customers in range(1, 9):
                hall = ((1,) * customers,) * counters
                lesser = min(counters, customers)
                for function in (covered, cover):
                    function(hall, lesser, customers)
                    function(hall, 0, 0)
                    for many in (lesser + 1, max(counters, customers) + 1, -1, True):
                        self.refuse(errors.NoMany, function, hall, many, customers)
                        self.refuse(errors.NoMany, function, hall, many, customers + 1)
                    for wrong in (customers + 1, -1, True, None):
                        self.refuse(errors.NoCustomers, function, hall, lesser, wrong)
                        self.refuse(errors.NoCustomers, function, hall, 0, wrong)


class TestUnlike(Refusing):
    def test_halls_of_other_many_customers_or_counters(self):
        for counters in range(1, 9):
            for customers in range(1, 9):
                told = ((0,) * customers,) * counters
                if (counters, customers) != (COUNTERS, CUSTOMERS):
                    for function in (not_led, led, road):
                        self.refuse(errors.Unlike, function, HALL, told)
                        self.refuse(errors.Unlike, function, told, HALL)
        self.assertIsNone(not_led(HALL, HALL))
        self.assertIs(led(HALL, HALL), True)

    def test_a_wrong_hall_goes_first(self):
        for wrong in (((1, 2), (3, True)), ((1,), (2, 3)), [(1, 2)], None):
            for function in (not_led, led, road):
                self.refuse(errors.NoHall, function, HALL, wrong)
                self.refuse(errors.NoHall, function, wrong, HALL)


class TestMoveSeen(Refusing):
    # No minute can be moved between the first two counters.
    STILL = ((0, 2, 0), (3, 4, 1), (1, 0, 0))

    def test_where_no_minute_can_be_moved(self):
        self.assertIsNone(move(self.STILL, 0))
        for room in (0, 1, 2, 10 ** 40):
            self.refuse(errors.NoMove, seen_day, self.STILL, 0, room)
            for day in ([0, 0, 0], [0, 5, 10 ** 15]):
                self.refuse(errors.NoMove, is_seen, self.STILL, 0, day, room)
        self.assertIsNotNone(move(self.STILL, 1))
        is_seen(self.STILL, 1, [0, 0, 0], 0)
        seen_day(self.STILL, 1, 0)
        self.refuse(errors.NoMove, is_seen, ((0,) * 8,) * 8, 3, [0] * 8, 0)

    def test_all_others_go_before_it(self):
        for counter in (2, 3, -1, True, None):
            self.refuse(errors.NoCounter, is_seen, self.STILL, counter, None, None)
            self.refuse(errors.NoCounter, is_seen, self.STILL, counter, [0, 0, 0], 0)
            self.refuse(errors.NoCounter, seen_day, self.STILL, counter, None)
        for wrong in wrong_days(CUSTOMERS):
            self.refuse(errors.NoDay, is_seen, self.STILL, 0, wrong, 0)
            self.refuse(errors.NoDay, is_seen, self.STILL, 0, wrong, None)
        for wrong in WRONG["room"]:
            self.refuse(errors.NoRoom, is_seen, self.STILL, 0, [0, 0, 0], wrong)
            self.refuse(errors.NoRoom, seen_day, self.STILL, 0, wrong)


class TestTooMany(Refusing):
    def test_a_wrong_hall_goes_first(self):
        for wrong in (((1000,), (True,)), ((1000,), [0]), [(1000,), (0,)], ((1000,), (-1,)), ((10 ** 15,),) * 9):
            self.refuse(errors.NoHall, all_led, wrong)

    def test_refused_by_its_class_with_how_many(self):
        for hall in (((1000,), (0,)), ((10 ** 15,), (0,)), ((9, 8), (7, 6), (5, 4), (3, 2))):
            self.refuse(errors.TooMany, all_led, hall)
            with self.assertRaises(errors.TooMany) as caught:
                all_led(hall)
            self.assertEqual(caught.exception.many, many_led(hall))


class TestTexts(Refusing):
    def test_a_text_of_one_kind_writes_none_of_another(self):
        readers = {
            read_hall: ["1 2/3 4", "0", "5 4"], read_day: ["0", "4 5"], read_way: ["0.0-0.1"],
            read_tower: ["5|9 1", "0"], read_road: ["0:1", "0:-1 1:1", ""],
        }
        for read, texts in readers.items():
            for text in texts:
                read(text)
                for other in readers:
                    if text not in ("0", "4 5", "5 4") and other != read:
                        self.refuse(errors.NoText, other, text)

    def test_the_empty_text_writes_just_a_road(self):
        for read in (read_hall, read_day, read_way, read_tower):
            self.refuse(errors.NoText, read, "")
        self.assertEqual(read_road(""), [])


if __name__ == "__main__":
    unittest.main()
