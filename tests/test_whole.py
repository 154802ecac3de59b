"""What holds of the whole ([4]): moves are unseen, and what stays the same whatever is moved."""

import random
import unittest

from movedminutes.covers import not_led
from movedminutes.halls import last
from movedminutes.moves import can_move, moved
from movedminutes.sums import exchanged, in_order, to_first, to_last, totals, with_total
from movedminutes.towers import hall_of, towers
from movedminutes.ways import alike, parting
from tests.one_by_one import led_between
from tests.samples import days_up_to, sample_days, sample_halls, small_halls


def led_halls(hall, chance):
    """Halls led to from one in each of the ways that there are."""
    found = [to_first(hall), to_last(hall)]
    order = list(totals(hall))
    chance.shuffle(order)
    found.append(in_order(hall, tuple(order)))
    if len(hall) > 1:
        counter = chance.randrange(len(hall) - 1)
        on, off = can_move(hall, counter)
        found += [moved(hall, counter, many) for many in (on, -off, chance.randint(-off, on))]
        found.append(with_total(hall, counter, sum(hall[counter]) + off // 2))
        found.append(exchanged(hall, counter))
    return found


class TestTheWhole(unittest.TestCase):
    def test_everybody_leaves_the_last_counter_as_before(self):
        chance = random.Random(1)
        for hall in sample_halls():
            days = sample_days(hall)
            leaves = [last(hall, day) for day in days]
            for told in led_halls(hall, chance):
                self.assertEqual([last(told, day) for day in days], leaves)

    def test_any_customers_next_to_one_another_by_themselves_too(self):
        chance = random.Random(2)
        for hall in sample_halls()[::2]:
            customers = len(hall[0])
            first = chance.randrange(customers)
            behind = chance.randint(first + 1, customers)
            some = tuple(row[first:behind] for row in hall)
            for told in led_halls(hall, chance):
                told_some = tuple(row[first:behind] for row in told)
                for day in sample_days(some):
                    self.assertEqual(last(told_some, day), last(some, day))
                self.assertIsNone(not_led(some, told_some))

    def test_what_stays_the_same(self):
        chance = random.Random(3)
        for hall in sample_halls():
            by_customers, by_counters = towers(hall)
            for told in led_halls(hall, chance):
                self.assertIs(alike(hall, told), True)
                self.assertIsNone(parting(hall, told))
                self.assertIsNone(not_led(hall, told))
                self.assertEqual(to_first(told), to_first(hall))
                told_by_customers, told_by_counters = towers(told)
                self.assertEqual(told_by_customers, by_customers)
                self.assertEqual(hall_of(by_customers, told_by_counters), told)
                self.assertEqual(hall_of(told_by_customers, by_counters), hall)

    def test_of_two_counters_just_those_led_to_are_never_told_apart(self):
        for customers, most in ((1, 3), (2, 2), (3, 1)):
            days = days_up_to(customers, 2 * customers * most + 1)
            halls = small_halls(2, customers, most)
            leaves = {hall: [last(hall, day) for day in days] for hall in halls}
            for hall in halls:
                led = list(led_between(hall, 0).values())
                for other in halls:
                    self.assertIs(leaves[hall] == leaves[other], other in led)
                    self.assertIs(not_led(hall, other) is None, other in led)


if __name__ == "__main__":
    unittest.main()
