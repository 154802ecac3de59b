"""What holds of the whole ([4]): moves are unseen, and what stays the same whatever is moved."""

import itertools
import random
import unittest

from movedminutes.covers import not_led
from movedminutes.customers import customer_back, customer_move, exchanged_customers, turned_about
from movedminutes.halls import last
from movedminutes.moves import can_move, moved
from movedminutes.roads import all_led, led, many_led, road, with_totals
from movedminutes.rooms import blocked
from movedminutes.sums import exchanged, in_order, to_first, to_last, totals, with_total
from movedminutes.texts import read_hall, read_road, read_tower, show_hall, show_road, show_tower
from movedminutes.towers import hall_of, towers
from movedminutes.ways import alike, parting
from tests.one_by_one import led_between, led_by_moves
from tests.samples import days_up_to, sample_days, sample_halls, small_halls


def led_halls(hall, chance):
    """Halls led to from one in each of the ways that there are."""
    found = [to_first(hall), to_last(hall)]
    order = list(totals(hall))
    chance.shuffle(order)
    found.append(in_order(hall, tuple(order)))
    if len(hall) > 1:
        counter = chance.randrange(len(hall) - 1)
        on, off = can_move(hall, counter)
        found += [moved(hall, counter, many) for many in (on, -off, chance.randint(-off, on))]
        found.append(with_total(hall, counter, sum(hall[counter]) + off // 2))
        found.append(exchanged(hall, counter))
    return found


class TestTheWhole(unittest.TestCase):
    def test_everybody_leaves_the_last_counter_as_before(self):
        chance = random.Random(1)
        for hall in sample_halls():
            days = sample_days(hall)
            leaves = [last(hall, day) for day in days]
            for told in led_halls(hall, chance):
                self.assertEqual([last(told, day) for day in days], leaves)

    def test_any_customers_next_to_one_another_by_themselves_too(self):
        chance = random.Random(2)
        for hall in sample_halls()[::2]:
            customers = len(hall[0])
            first = chance.randrange(customers)
            behind = chance.randint(first + 1, customers)
            some = tuple(row[first:behind] for row in hall)
            for told in led_halls(hall, chance):
                told_some = tuple(row[first:behind] for row in told)
                for day in sample_days(some):
                    self.assertEqual(last(told_some, day), last(some, day))
                self.assertIsNone(not_led(some, told_some))

    def test_what_stays_the_same(self):
        chance = random.Random(3)
        for hall in sample_halls():
            by_customers, by_counters = towers(hall)
            for told in led_halls(hall, chance):
                self.assertIs(alike(hall, told), True)
                self.assertIsNone(parting(hall, told))
                self.assertIsNone(not_led(hall, told))
                self.assertEqual(to_first(told), to_first(hall))
                self.assertIs(led(hall, told), True)
                self.assertEqual(many_led(told), many_led(hall))
                told_by_customers, told_by_counters = towers(told)
                self.assertEqual(told_by_customers, by_customers)
                self.assertEqual(hall_of(by_customers, told_by_counters), told)
                self.assertEqual(hall_of(told_by_customers, by_counters), hall)

    def test_of_two_counters_just_those_led_to_are_never_told_apart(self):
        for customers, most in ((1, 3), (2, 2), (3, 1)):
            days = days_up_to(customers, 2 * customers * most + 1)
            halls = small_halls(2, customers, most)
            leaves = {hall: [last(hall, day) for day in days] for hall in halls}
            for hall in halls:
                led = list(led_between(hall, 0).values())
                for other in halls:
                    self.assertIs(leaves[hall] == leaves[other], other in led)
                    self.assertIs(not_led(hall, other) is None, other in led)

    def test_moves_go_back_along_the_road(self):
        chance = random.Random(4)
        for hall in sample_halls():
            for told in led_halls(hall, chance):
                here = told
                for counter, many in road(hall, told)[::-1]:
                    here = moved(here, counter, -many)
                self.assertEqual(here, hall)

    def test_of_two_counters_there_is_one_for_each_total(self):
        for hall in small_halls(2, 2, 3) + small_halls(2, 3, 1):
            told = all_led(hall)
            had = sorted(totals(other)[0] for other in told)
            self.assertEqual(had, list(range(had[0], had[-1] + 1)))
            self.assertEqual(len(had), sum(can_move(hall, 0)) + 1)
            for total in range(sum(map(sum, hall)) + 2):
                wished = (total, sum(map(sum, hall)) - total)
                other = with_total(hall, 0, total)
                self.assertIs(other is not None, total in had)
                if wished[1] >= 0:
                    self.assertEqual(with_totals(hall, wished), other)

    def test_of_all_that_are_led_the_towers_by_customers_are_one(self):
        for hall in small_halls(3, 2, 1) + small_halls(2, 3, 1) + small_halls(3, 3, 1)[::9]:
            told = all_led(hall)
            self.assertEqual(told, sorted(led_by_moves(hall)))
            self.assertEqual([towers(other)[0] for other in told], [towers(hall)[0]] * len(told))
            self.assertEqual(len({tuple(towers(other)[1]) for other in told}), len(told))

    def test_halls_of_so_many_minutes_are_counted_by_a_product(self):
        for counters, customers, minutes in ((2, 2, 4), (3, 2, 4), (2, 3, 4), (3, 3, 3), (4, 2, 3), (1, 3, 4)):
            halls = [hall for hall in small_halls(counters, customers, minutes) if sum(map(sum, hall)) == minutes]
            by_top = {}
            for hall in halls:
                by_top.setdefault(tuple(towers(hall)[0][-1]), []).append(hall)
            for same_top in by_top.values():
                for hall in same_top:
                    self.assertEqual(many_led(hall) * many_led(turned_about(hall)), len(same_top))

    def test_two_halls_by_their_covers(self):
        for hall, other in itertools.product(small_halls(3, 3, 1)[::7], repeat=2):
            self.assertIs(led(hall, other), not_led(hall, other) is None)

    def test_minutes_between_customers_go_past_those_between_counters(self):
        chance = random.Random(5)
        for hall in sample_halls():
            if len(hall[0]) > 1:
                customer = chance.randrange(len(hall[0]) - 1)
                for step in (customer_move, customer_back, exchanged_customers):
                    told = step(hall, customer)
                    if told is not None:
                        self.assertEqual(to_first(told), step(to_first(hall), customer))
                        self.assertEqual(to_last(told), step(to_last(hall), customer))
                        self.assertEqual(totals(told), totals(hall))

    def test_with_few_rooms_it_may_be_told(self):
        hall, other = ((0, 0, 1), (0, 0, 0), (1, 0, 0)), ((0, 0, 0), (0, 0, 1), (1, 0, 0))
        self.assertIs(led(hall, other), True)
        self.assertNotEqual(blocked(hall, [0, 0, 0], 0)[-1], blocked(other, [0, 0, 0], 0)[-1])
        for day in days_up_to(3, 4):
            self.assertEqual(blocked(hall, day, 2)[-1], blocked(other, day, 2)[-1])

    def test_all_is_written_and_read_back(self):
        chance = random.Random(6)
        for hall in sample_halls():
            self.assertEqual(hall_of(*[read_tower(show_tower(tower)) for tower in towers(hall)]), hall)
            for told in led_halls(hall, chance):
                here = read_hall(show_hall(hall))
                for counter, many in read_road(show_road(road(hall, told))):
                    here = moved(here, counter, many)
                self.assertEqual(here, told)


if __name__ == "__main__":
    unittest.main()
