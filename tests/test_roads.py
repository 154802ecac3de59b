"""Led by moves: led, road, all_led, many_led, with_totals ([16], [17])."""

import itertools
import random
import unittest

from movedminutes.covers import not_led
from movedminutes.errors import TooMany
from movedminutes.moves import can_move, move, moved
from movedminutes.roads import all_led, led, many_led, road, with_totals
from movedminutes.sums import exchanged, to_first, to_last, totals
from movedminutes.ways import alike
from tests.one_by_one import led_by_moves, led_between
from tests.samples import (
    FIFTEEN_FIGURES, KINDS, all_minutes, great, hall_of_kind, noughts, sample_halls, small, small_halls,
)
from tests.test_moves import halls_at_random

FEW = 1500


def halls_with_few_led(seed, many, kinds=(noughts, small), most=5):
    """Halls at random of which single moves lead to no more than so many, and all of these."""
    for hall in halls_at_random(seed, many, list(kinds), most):
        if all_minutes(hall) <= 12 and many_led(hall) <= FEW:
            yield hall, led_by_moves(hall)


def led_at_random(hall, chance):
    """Some hall that moves of many minutes lead to."""
    for _ in range(12):
        if len(hall) > 1:
            counter = chance.randrange(len(hall) - 1)
            on, off = can_move(hall, counter)
            hall = moved(hall, counter, chance.choice([-off, on, chance.randint(-off, on)]))
    return hall


def families(halls):
    """The lots of those halls that single moves lead to one another."""
    found = {}
    for hall in halls:
        if hall not in found:
            family = led_by_moves(hall)
            found.update({told: family for told in family})
    return found


class TestLed(unittest.TestCase):
    def test_all_pairs_of_small_halls_by_single_moves(self):
        for counters, customers, most in ((1, 2, 2), (2, 1, 3), (2, 2, 2), (3, 2, 1), (2, 3, 1), (4, 1, 2)):
            halls = small_halls(counters, customers, most)
            found = families(halls)
            for hall, other in itertools.product(halls, repeat=2):
                told = led(hall, other)
                self.assertIs(told, other in found[hall])
                self.assertIs(told, to_first(hall) == to_first(other))
                self.assertIs(told, not_led(hall, other) is None)
                if counters <= 2:
                    self.assertIs(told, alike(hall, other))
                if told:
                    self.assertIs(alike(hall, other), True)

    def test_whatever_moves_lead_to(self):
        chance = random.Random(1)
        for hall in sample_halls():
            told = led_at_random(hall, chance)
            self.assertIs(led(hall, told), True)
            self.assertIs(led(told, hall), True)
            self.assertIs(led(hall, hall), True)
            self.assertIs(led(to_first(hall), to_last(told)), True)

    def test_others_are_not_led(self):
        chance = random.Random(2)
        for hall in sample_halls():
            rows = [list(row) for row in hall]
            rows[chance.randrange(len(hall))][chance.randrange(len(hall[0]))] += 1
            self.assertIs(led(hall, tuple(map(tuple, rows))), False)
            other = tuple(row[::-1] for row in hall)
            self.assertIs(led(hall, other), not_led(hall, other) is None)

    def test_of_three_counters_some_alike_ones_are_not_led(self):
        hall = ((0, 0, 0), (0, 1, 1), (1, 1, 0))
        other = ((0, 0, 1), (0, 1, 0), (1, 1, 0))
        self.assertIs(alike(hall, other), True)
        self.assertNotIn(other, led_by_moves(hall))
        self.assertIs(led(hall, other), False)
        self.assertIsNone(road(hall, other))

    def test_told_by_hand(self):
        self.assertIs(led(((5,), (0,)), ((2,), (3,))), True)
        self.assertIs(led(((5,), (0,)), ((2,), (2,))), False)
        self.assertIs(led(((0, 1), (1, 0)), ((1, 0), (0, 1))), False)
        self.assertIs(led(((1, 0), (0, 1)), ((0, 0), (1, 1))), True)
        self.assertIs(led(((1, 2),), ((1, 2),)), True)
        self.assertIs(led(((1, 2),), ((2, 1),)), False)


class TestRoad(unittest.TestCase):
    def hold(self, hall, other):
        told = road(hall, other)
        self.assertIs(type(told), list)
        for part in told:
            self.assertIs(type(part), tuple)
            counter, many = part
            self.assertIn(counter, range(len(hall) - 1))
            self.assertIs(type(many), int)
            self.assertNotEqual(many, 0)
            hall = moved(hall, counter, many)
        self.assertEqual(hall, other)
        return told

    def test_part_by_part_to_whatever_moves_lead_to(self):
        chance = random.Random(3)
        for hall in sample_halls():
            told = led_at_random(hall, chance)
            self.hold(hall, told)
            self.hold(told, hall)
            self.hold(hall, to_first(hall))
            self.hold(to_first(hall), hall)
            self.hold(to_last(hall), told)

    def test_each_small_hall_to_each_that_is_led_to(self):
        chance = random.Random(4)
        for hall, found in halls_with_few_led(5, 120):
            for other in chance.sample(sorted(found), min(20, len(found))):
                self.hold(hall, other)

    def test_by_single_moves_along_the_road(self):
        for hall, found in halls_with_few_led(6, 60, most=4):
            for other in sorted(found)[:5]:
                here = hall
                for counter, many in road(hall, other):
                    here = led_between(here, counter)[many]
                self.assertEqual(here, other)

    def test_of_a_hall_to_itself_it_is_empty(self):
        for hall in sample_halls():
            self.assertEqual(road(hall, hall), [])

    def test_none_just_where_it_is_not_led(self):
        for counters, customers, most in ((2, 2, 2), (3, 2, 1), (2, 3, 1), (1, 2, 2)):
            for hall, other in itertools.product(small_halls(counters, customers, most), repeat=2):
                told = road(hall, other)
                self.assertIs(told is None, not led(hall, other))
                if told is not None:
                    self.hold(hall, other)

    def test_told_by_hand(self):
        self.assertEqual(self.hold(((5,), (0,)), ((2,), (3,))), [(0, 3)])
        self.assertEqual(self.hold(((2,), (3,)), ((5,), (0,))), [(0, -3)])
        self.assertEqual(road(((1, 2),), ((1, 2),)), [])
        self.assertIsNone(road(((1, 2),), ((2, 1),)))
        self.assertIsNone(road(((0, 1), (1, 0)), ((1, 0), (0, 1))))


class TestAllLedAndManyLed(unittest.TestCase):
    def hold(self, hall, found):
        self.assertEqual(many_led(hall), len(found))
        if len(found) > 1000:
            with self.assertRaises(TooMany) as caught:
                all_led(hall)
            self.assertEqual(caught.exception.many, len(found))
        else:
            told = all_led(hall)
            self.assertIs(type(told), list)
            self.assertEqual(told, sorted(found))

    def test_by_all_single_moves(self):
        for hall, found in halls_with_few_led(7, 200):
            self.hold(hall, found)

    def test_all_small_halls(self):
        for hall in small_halls(3, 2, 1) + small_halls(2, 3, 1) + small_halls(2, 2, 2) + small_halls(4, 1, 2):
            self.hold(hall, led_by_moves(hall))

    def test_many_counters(self):
        for hall in (((1,),) * 4, ((0, 1),) * 5, ((1, 0),) + ((0,) * 2,) * 6 + ((0, 1),), ((0,),) * 7 + ((3,),)):
            self.hold(hall, led_by_moves(hall))

    def test_each_just_once_and_rising(self):
        for hall in sample_halls():
            many = many_led(hall)
            self.assertIs(type(many), int)
            self.assertGreaterEqual(many, 1)
            if many <= 1000:
                told = all_led(hall)
                self.assertEqual(len(told), many)
                self.assertIn(hall, told)
                self.assertTrue(all(a < b for a, b in zip(told, told[1:])))
                for other in told[::max(1, many // 20)]:
                    self.assertIs(led(hall, other), True)
                    self.assertEqual(many_led(other), many)
                    self.assertEqual(all_led(other), told)

    def test_few_of_many_minutes(self):
        most = FIFTEEN_FIGURES
        hall = ((0, most), (most, 2))
        self.hold(hall, set(led_between(hall, 0).values()))
        self.assertEqual(many_led(hall), 3)
        self.hold(((most, 7, 0),), {((most, 7, 0),)})
        self.hold(((0, most), (most, 0)), {((0, most), (most, 0))})

    def test_just_a_thousand_and_just_more(self):
        for customers in (1, 3, 8):
            for minutes, many in ((998, 999), (999, 1000), (1000, 1001), (1001, 1002)):
                hall = ((0,) * customers, (0,) * (customers - 1) + (minutes,))
                self.hold(hall, {
                    ((0,) * (customers - 1) + (minutes - gone,), (0,) * (customers - 1) + (gone,))
                    for gone in range(many)
                })

    def test_a_thousand_of_three_counters(self):
        # Differences of 10, 10 and 20: 10 times 10 times 20, divided by 2.
        hall = ((0, 9, 9), (9, 0, 0), (0, 0, 0))
        self.assertEqual(totals(to_first(hall)), (18, 9, 0))
        self.hold(hall, led_by_moves(hall))
        self.assertEqual(len(all_led(hall)), 1000)
        self.assertEqual(many_led(hall), 1000)
        # Of 10, 11 and 21 there are more.
        more = ((0, 9, 10), (9, 0, 0), (0, 0, 0))
        self.assertEqual(totals(to_first(more)), (19, 9, 0))
        self.hold(more, led_by_moves(more))

    def test_too_many_are_refused_with_how_many(self):
        for hall in sample_halls():
            many = many_led(hall)
            if many > 1000:
                with self.assertRaises(TooMany) as caught:
                    all_led(hall)
                self.assertIs(type(caught.exception), TooMany)
                self.assertEqual(caught.exception.many, many)

    def test_by_the_product(self):
        for hall in sample_halls():
            most = totals(to_first(hall))
            pairs = list(itertools.combinations(range(len(most)), 2))
            above = below = 1
            for i, j in pairs:
                above, below = above * (most[i] - most[j] + j - i), below * (j - i)
            self.assertEqual(divmod(above, below), (many_led(hall), 0))

    def test_told_by_hand(self):
        self.assertEqual(all_led(((3, 0, 4),)), [((3, 0, 4),)])
        self.assertEqual(all_led(((1,), (1,))), [((0,), (2,)), ((1,), (1,)), ((2,), (0,))])
        self.assertEqual(all_led(((0, 0), (0, 0))), [((0, 0), (0, 0))])
        self.assertEqual(all_led(((0, 1), (1, 0))), [((0, 1), (1, 0))])
        self.assertEqual(many_led(((2,), (0,), (0,))), 6)
        self.assertEqual(many_led(((0,) * 8,) * 8), 1)
        self.assertEqual(many_led(((FIFTEEN_FIGURES,), (0,))), 10 ** 15)


def parts_together(numbers, many):
    return max(map(sum, itertools.combinations(numbers, many)))


def can_be_had(hall, wished):
    """Whether there is a hall led to with these totals, as it is said of all so many of them."""
    most = totals(to_first(hall))
    return sum(wished) == sum(most) and all(
        parts_together(wished, many) <= sum(most[:many]) for many in range(1, len(most))
    )


class TestWithTotals(unittest.TestCase):
    def hold(self, hall, wished, there_is_one):
        told = with_totals(hall, wished)
        self.assertIs(told is not None, there_is_one)
        if told is not None:
            self.assertEqual(totals(told), wished)
            self.assertIs(led(hall, told), True)

    def all_wished(self, hall):
        """All totals of as many minutes, and some of one more or fewer."""
        many = all_minutes(hall)
        for wished in itertools.product(range(many + 2), repeat=len(hall)):
            if many - 1 <= sum(wished) <= many + 1:
                yield wished

    def test_all_totals_by_all_halls_led_to(self):
        for hall, found in halls_with_few_led(8, 150, most=4):
            if all_minutes(hall) <= 7:
                had = {totals(told) for told in found}
                for wished in self.all_wished(hall):
                    self.hold(hall, wished, wished in had)
                    self.assertIs(can_be_had(hall, wished), wished in had)

    def test_all_small_halls(self):
        for hall in small_halls(3, 2, 1) + small_halls(2, 2, 2) + small_halls(2, 3, 1) + small_halls(3, 1, 2):
            had = {totals(told) for told in led_by_moves(hall)}
            for wished in self.all_wished(hall):
                self.hold(hall, wished, wished in had)

    def test_totals_of_whatever_is_led_to(self):
        chance = random.Random(9)
        for hall in sample_halls():
            for _ in range(3):
                self.hold(hall, totals(led_at_random(hall, chance)), True)
            most = totals(to_first(hall))
            self.hold(hall, totals(hall), True)
            self.hold(hall, most, True)
            self.hold(hall, most[::-1], True)
            self.hold(hall, tuple(chance.sample(most, len(most))), True)

    def test_by_the_rule_of_so_many_together(self):
        chance = random.Random(10)
        met = {True: 0, False: 0}
        for hall in halls_at_random(11, 400, KINDS):
            most = totals(to_first(hall))
            for _ in range(6):
                wished = list(most)
                for _ in range(chance.randint(1, 9)):
                    source, goal = chance.randrange(len(hall)), chance.randrange(len(hall))
                    many = chance.choice([0, 1, wished[source] // 2, wished[source]])
                    if many <= wished[source]:
                        wished[source] -= many
                        wished[goal] += many
                met[can_be_had(hall, wished)] += 1
                self.hold(hall, tuple(wished), can_be_had(hall, wished))
        self.assertGreater(min(met.values()), 300)

    def test_one_minute_more_than_so_many_can_have(self):
        hall = to_last(((0, 0, 5), (0, 3, 0), (1, 0, 0)))
        most = totals(to_first(hall))
        self.assertEqual(most, (5, 3, 1))
        for wished in itertools.permutations(most):
            self.hold(hall, wished, True)
        first, second, third = most
        for wished in (
            (first + 1, second - 1, third), (first + 1, second, third - 1), (first, second + 1, third - 1),
            (third - 1, first, second + 1), (second - 1, third, first + 1), (sum(most), 0, 0),
        ):
            self.hold(hall, wished, False)
        self.hold(hall, (first - 1, second + 1, third), True)
        self.hold(hall, (third + 1, second - 1, first), True)

    def test_all_together_other_than_the_halls(self):
        for hall in sample_halls():
            most = totals(to_first(hall))
            self.hold(hall, most[:-1] + (most[-1] + 1,), False)
            self.hold(hall, (0,) * len(hall), all_minutes(hall) == 0)
            if most[0] > 0:
                self.hold(hall, (most[0] - 1,) + most[1:], False)
            self.hold(hall, (10 ** 40,) + most[1:], False)

    def test_very_many_minutes(self):
        chance = random.Random(12)
        for _ in range(40):
            hall = hall_of_kind(chance, chance.randint(2, 8), chance.randint(1, 8), great)
            counter = chance.randrange(len(hall) - 1)
            self.hold(hall, totals(exchanged(hall, counter)), True)
            told = move(hall, counter)
            if told is not None:
                self.hold(hall, totals(told), True)

    def test_told_by_hand(self):
        self.assertEqual(with_totals(((5,), (0,)), (2, 3)), ((2,), (3,)))
        self.assertEqual(with_totals(((3, 0, 4),), (7,)), ((3, 0, 4),))
        self.assertIsNone(with_totals(((3, 0, 4),), (6,)))
        self.assertIsNone(with_totals(((0, 1), (1, 0)), (2, 0)))
        self.assertEqual(with_totals(((0, 1), (1, 0)), (1, 1)), ((0, 1), (1, 0)))
        self.assertEqual(with_totals(((4,), (0,), (1,)), (0, 2, 3)), ((0,), (2,), (3,)))


if __name__ == "__main__":
    unittest.main()
