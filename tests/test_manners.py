"""What holds of every function: what is handed in and told, names, and steps ([2])."""

import copy
import inspect
import random
import sys
import unittest

from movedminutes import covers, halls, moves, sums, ways
from movedminutes import towers as towers_file
from movedminutes.covers import cover, covered, not_led
from movedminutes.halls import held_by, is_hall, last, leavings, waits
from movedminutes.moves import back, can_move, move, moved
from movedminutes.sums import exchanged, fewest, in_order, settled, to_first, to_last, totals, with_total
from movedminutes.towers import hall_of, towers
from movedminutes.ways import alike, best_way, greatest, parting, spare
from tests.samples import FIFTEEN_FIGURES, KINDS, hall_of_kind, sample_days, sample_halls

INTERFACE = {
    halls: {
        "is_hall": ["thing"], "leavings": ["hall", "day"], "last": ["hall", "day"],
        "waits": ["hall", "day"], "held_by": ["hall", "day", "customer"],
    },
    ways: {
        "greatest": ["hall", "first", "last_one"], "best_way": ["hall", "first", "last_one"],
        "alike": ["hall", "other"], "parting": ["hall", "other"], "spare": ["hall", "counter", "customer"],
    },
    moves: {
        "move": ["hall", "counter"], "back": ["hall", "counter"], "can_move": ["hall", "counter"],
        "moved": ["hall", "counter", "many"],
    },
    sums: {
        "totals": ["hall"], "with_total": ["hall", "counter", "total"], "exchanged": ["hall", "counter"],
        "in_order": ["hall", "totals_wished"], "to_first": ["hall"], "settled": ["hall"], "to_last": ["hall"],
        "fewest": ["hall"],
    },
    covers: {
        "covered": ["hall", "many", "customers"], "cover": ["hall", "many", "customers"],
        "not_led": ["hall", "other"],
    },
    towers_file: {"towers": ["hall"], "hall_of": ["by_customers", "by_counters"]},
}


def other_hall(hall):
    """A hall of as many customers, and most often of other minutes."""
    return tuple(tuple(reversed(row)) for row in reversed(hall))


def asked_between(hall):
    """Each function of two neighbouring counters with what is handed in to it."""
    counter = (len(hall) - 1) // 2
    neighbours = {"hall": hall, "counter": counter}
    on, off = can_move(hall, counter)
    here = totals(hall)[counter]
    return [
        (move, neighbours), (back, neighbours), (can_move, neighbours), (exchanged, neighbours),
        (moved, {**neighbours, "many": on}), (moved, {**neighbours, "many": -off}),
        (moved, {**neighbours, "many": on + 1}),
        (with_total, {**neighbours, "total": here - on}), (with_total, {**neighbours, "total": here + off + 1}),
    ]


def asked_of_a_hall(hall):
    """Each other function of moves, ways apart and towers with what is handed in to it."""
    counters, customers = len(hall), len(hall[0])
    by_customers, by_counters = towers(hall)
    alone = {"hall": hall}
    bounds = {"hall": hall, "many": (min(counters, customers) + 1) // 2, "customers": (customers + 1) // 2}
    all_bounds = {"hall": hall, "many": min(counters, customers), "customers": customers}
    return [
        (totals, alone), (in_order, {"hall": hall, "totals_wished": totals(hall)[::-1]}),
        (to_first, alone), (to_last, alone), (settled, alone), (fewest, alone),
        (covered, bounds), (cover, bounds), (covered, all_bounds), (cover, all_bounds),
        (not_led, {"hall": hall, "other": other_hall(hall)}), (not_led, {"hall": hall, "other": to_last(hall)}),
        (towers, alone), (hall_of, {"by_customers": by_customers, "by_counters": by_counters}),
    ]


def asked_of_two(hall):
    """Each function of ways and halls alike with what is handed in to it."""
    end = len(hall[0]) - 1
    ends = {"hall": hall, "first": end // 2, "last_one": end}
    halls_two = {"hall": hall, "other": other_hall(hall)}
    return [
        (is_hall, {"thing": hall}), (greatest, ends), (best_way, ends), (alike, halls_two), (parting, halls_two),
        (spare, {"hall": hall, "counter": len(hall) - 1, "customer": end // 2}),
    ]


def asked_without_a_day(hall):
    between = asked_between(hall) if len(hall) > 1 else []
    return asked_of_two(hall) + asked_of_a_hall(hall) + between


def asked_on_a_day(hall, day):
    both = {"hall": hall, "day": day}
    return [(leavings, both), (last, both), (waits, both), (held_by, {**both, "customer": len(hall[0]) - 1})]


def asked(hall, day):
    """Each function with what is handed in to it, by the names of the interface."""
    return asked_on_a_day(hall, day) + asked_without_a_day(hall)


def everything_asked():
    for hall in sample_halls():
        yield from asked_without_a_day(hall)
        for day in sample_days(hall)[::2]:
            yield from asked_on_a_day(hall, day)


def lists_in(told):
    """All lists within what is told, the inner ones too."""
    if type(told) not in (list, tuple):
        return []
    found = [told] if type(told) is list else []
    for inner in told:
        found += lists_in(inner)
    return found


class TestInterface(unittest.TestCase):
    def test_names_and_arguments_as_written(self):
        for module, functions in INTERFACE.items():
            for name, arguments in functions.items():
                function = getattr(module, name)
                self.assertEqual(function.__module__, module.__name__)
                self.assertEqual(list(inspect.signature(function).parameters), arguments)

    def test_by_name_as_by_place(self):
        for function, told in everything_asked():
            self.assertEqual(function(**told), function(*told.values()))
            turned = dict(reversed(list(told.items())))
            self.assertEqual(function(**turned), function(*told.values()))


class TestHandedInAndTold(unittest.TestCase):
    def test_what_is_handed_in_is_unchanged(self):
        for function, told in everything_asked():
            before = copy.deepcopy(told)
            function(**told)
            self.assertEqual(told, before)

    def test_told_lists_changed_change_nothing(self):
        for function, told in everything_asked():
            before = copy.deepcopy(told)
            answer = function(**told)
            kept = copy.deepcopy(answer)
            for inner in lists_in(answer):
                inner.append("changed")
                inner[0] = None
            self.assertEqual(told, before)
            self.assertEqual(function(**told), kept)

    def test_no_two_told_at_once_are_one_nor_one_handed_in(self):
        for function, told in everything_asked():
            found = lists_in(function(**told)) + lists_in(function(**told)) + lists_in(list(told.values()))
            self.assertEqual(len(found), len({id(inner) for inner in found}))

    def test_lists_handed_in_changed_afterwards_change_nothing(self):
        for hall in sample_halls():
            for function in (leavings, last, waits):
                day = sample_days(hall)[2]
                answer = function(hall, day)
                kept = copy.deepcopy(answer)
                day[0] = "changed"
                day.clear()
                self.assertEqual(answer, kept)
                self.assertEqual(function(hall, sample_days(hall)[2]), kept)

    def test_what_is_told_may_be_handed_in(self):
        for hall in sample_halls():
            day = [0] * len(hall[0])
            for _ in range(3):
                for left in leavings(hall, day):
                    held_by(hall, left, len(left) - 1)
                day = last(hall, day)
            told = parting(hall, other_hall(hall))
            if told is not None:
                self.assertNotEqual(last(hall, told[0]), last(other_hall(hall), told[0]))
                held_by(hall, *told)
            for counter, customer in best_way(hall, 0, len(day) - 1):
                self.assertGreaterEqual(spare(hall, counter, customer), 0)

    def test_what_is_told_of_halls_may_be_handed_in(self):
        for hall in sample_halls():
            told = in_order(to_first(hall), totals(to_last(hall)))
            self.assertEqual(told, to_last(hall))
            self.assertEqual(hall_of(*towers(told)), told)
            if len(hall) > 1:
                on, off = can_move(hall, 0)
                self.assertEqual(moved(moved(hall, 0, on), 0, -on), hall)
                self.assertEqual(with_total(hall, 0, totals(hall)[0] + off), moved(hall, 0, -off))
            apart = not_led(hall, other_hall(hall))
            if apart is not None:
                self.assertEqual(len(cover(hall, *apart)), apart[0])
            for counter, customer in fewest(hall)[1]:
                self.assertGreaterEqual(spare(hall, counter, customer), 0)

    def test_moves_of_more_than_fifteen_figures(self):
        many = 10 ** 40
        hall = ((many, 0), (many + 1, 2))
        self.assertEqual(can_move(hall, 0), (many, many + 3))
        self.assertEqual(moved(hall, 0, many), ((0, 0), (2 * many + 1, 2)))
        self.assertEqual(moved(hall, 0, -many - 3), ((2 * many + 1, 2), (0, 0)))
        self.assertEqual(exchanged(hall, 0), ((many + 3, 0), (many - 2, 2)))
        self.assertEqual(with_total(hall, 0, 2 * many), ((2 * many, 0), (1, 2)))
        self.assertEqual(to_first(hall), ((2 * many + 1, 2), (0, 0)))
        self.assertEqual(covered(hall, 1, 1), 2 * many + 1)
        self.assertEqual(hall_of(*towers(hall)), hall)

    def test_numbers_of_more_than_fifteen_figures(self):
        many = 10 ** 40
        hall = ((many, 0), (many + 1, 2))
        self.assertIs(is_hall(hall), True)
        self.assertEqual(last(hall, [many ** 2, many ** 2]), [many ** 2 + 2 * many + 1, many ** 2 + 2 * many + 3])
        self.assertEqual(greatest(hall, 0, 1), 2 * many + 3)
        self.assertEqual(spare(hall, 0, 1), many + 1)
        self.assertEqual(parting(hall, ((0, 0),)), ([2 * many + 3, 2 * many + 3], 0))

    def test_tuples_and_truths_are_told_where_they_are_asked_for(self):
        hall = ((1, 2), (3, 4))
        self.assertIs(type(parting(hall, other_hall(hall))), tuple)
        self.assertIs(type(alike(hall, hall)), bool)
        self.assertIs(type(greatest(hall, 0, 1)), int)


class TestSteps(unittest.TestCase):
    def steps(self, function, told):
        """Count the lines of the program that an answer goes through."""
        counted = [0]

        def trace(frame, event, _):
            if "movedminutes" not in frame.f_code.co_filename:
                return None
            counted[0] += event == "line"
            return trace

        before = sys.gettrace()
        sys.settrace(trace)
        try:
            function(**told)
        finally:
            sys.settrace(before)
        return counted[0]

    def hold(self, function, many):
        # So many ways of eight customers through eight counters take the most.
        self.assertLess(many, 200000 if function is cover else 20000)

    def test_they_do_not_grow_with_the_minutes(self):
        hall = tuple(tuple((3 * i + 5 * k) % 7 for k in range(8)) for i in range(8))
        day = [2 * k for k in range(8)]
        scale = 10 ** 15
        greater = tuple(tuple(scale * minutes for minutes in row) for row in hall)
        late = [scale * time for time in day]
        for (function, told), (_, more) in zip(asked(hall, day), asked(greater, late)):
            many = self.steps(function, told)
            self.hold(function, many)
            if function is not moved and function is not with_total:
                self.assertEqual(self.steps(function, more), many)

    def test_they_are_few_whatever_the_minutes(self):
        chance = random.Random(4)
        halls_told = [hall_of_kind(chance, 8, 8, kind) for kind in KINDS * 3]
        for hall in halls_told + [((0,) * 8,) * 8, ((FIFTEEN_FIGURES,) * 8,) * 8]:
            for function, told in asked(hall, [0] * 8):
                self.hold(function, self.steps(function, told))


if __name__ == "__main__":
    unittest.main()
