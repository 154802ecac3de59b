"""What holds of every function: what is handed in and told, names, and steps ([2])."""

import copy
import inspect
import sys
import unittest

from movedminutes import halls, ways
from movedminutes.halls import held_by, is_hall, last, leavings, waits
from movedminutes.ways import alike, best_way, greatest, parting, spare
from tests.samples import sample_days, sample_halls

INTERFACE = {
    halls: {
        "is_hall": ["thing"], "leavings": ["hall", "day"], "last": ["hall", "day"],
        "waits": ["hall", "day"], "held_by": ["hall", "day", "customer"],
    },
    ways: {
        "greatest": ["hall", "first", "last_one"], "best_way": ["hall", "first", "last_one"],
        "alike": ["hall", "other"], "parting": ["hall", "other"], "spare": ["hall", "counter", "customer"],
    },
}


def other_hall(hall):
    """A hall of as many customers, and most often of other minutes."""
    return tuple(tuple(reversed(row)) for row in reversed(hall))


def asked(hall, day):
    """Each function with what is handed in to it, by the names of the interface."""
    end = len(hall[0]) - 1
    both = {"hall": hall, "day": day}
    ends = {"hall": hall, "first": end // 2, "last_one": end}
    halls_two = {"hall": hall, "other": other_hall(hall)}
    return [
        (is_hall, {"thing": hall}), (leavings, both), (last, both), (waits, both),
        (held_by, {"hall": hall, "day": day, "customer": end}),
        (greatest, ends), (best_way, ends), (alike, halls_two), (parting, halls_two),
        (spare, {"hall": hall, "counter": len(hall) - 1, "customer": end // 2}),
    ]


def everything_asked():
    for hall in sample_halls():
        for day in sample_days(hall)[::2]:
            yield from asked(hall, day)


def lists_in(told):
    """All lists within what is told, the inner ones too."""
    if type(told) not in (list, tuple):
        return []
    found = [told] if type(told) is list else []
    for inner in told:
        found += lists_in(inner)
    return found


class TestInterface(unittest.TestCase):
    def test_names_and_arguments_as_written(self):
        for module, functions in INTERFACE.items():
            for name, arguments in functions.items():
                function = getattr(module, name)
                self.assertEqual(function.__module__, module.__name__)
                self.assertEqual(list(inspect.signature(function).parameters), arguments)

    def test_by_name_as_by_place(self):
        for function, told in everything_asked():
            self.assertEqual(function(**told), function(*told.values()))
            turned = dict(reversed(list(told.items())))
            self.assertEqual(function(**turned), function(*told.values()))


class TestHandedInAndTold(unittest.TestCase):
    def test_what_is_handed_in_is_unchanged(self):
        for function, told in everything_asked():
            before = copy.deepcopy(told)
            function(**told)
            self.assertEqual(told, before)

    def test_told_lists_changed_change_nothing(self):
        for function, told in everything_asked():
            before = copy.deepcopy(told)
            answer = function(**told)
            kept = copy.deepcopy(answer)
            for inner in lists_in(answer):
                inner.append("changed")
                inner[0] = None
            self.assertEqual(told, before)
            self.assertEqual(function(**told), kept)

    def test_no_two_told_at_once_are_one_nor_one_handed_in(self):
        for function, told in everything_asked():
            found = lists_in(function(**told)) + lists_in(function(**told)) + lists_in(list(told.values()))
            self.assertEqual(len(found), len({id(inner) for inner in found}))

    def test_lists_handed_in_changed_afterwards_change_nothing(self):
        for hall in sample_halls():
            for function in (leavings, last, waits):
                day = sample_days(hall)[2]
                answer = function(hall, day)
                kept = copy.deepcopy(answer)
                day[0] = "changed"
                day.clear()
                self.assertEqual(answer, kept)
                self.assertEqual(function(hall, sample_days(hall)[2]), kept)

    def test_what_is_told_may_be_handed_in(self):
        for hall in sample_halls():
            day = [0] * len(hall[0])
            for _ in range(3):
                for left in leavings(hall, day):
                    held_by(hall, left, len(left) - 1)
                day = last(hall, day)
            told = parting(hall, other_hall(hall))
            if told is not None:
                self.assertNotEqual(last(hall, told[0]), last(other_hall(hall), told[0]))
                held_by(hall, *told)
            for counter, customer in best_way(hall, 0, len(day) - 1):
                self.assertGreaterEqual(spare(hall, counter, customer), 0)

    def test_numbers_of_more_than_fifteen_figures(self):
        many = 10 ** 40
        hall = ((many, 0), (many + 1, 2))
        self.assertIs(is_hall(hall), True)
        self.assertEqual(last(hall, [many ** 2, many ** 2]), [many ** 2 + 2 * many + 1, many ** 2 + 2 * many + 3])
        self.assertEqual(greatest(hall, 0, 1), 2 * many + 3)
        self.assertEqual(spare(hall, 0, 1), many + 1)
        self.assertEqual(parting(hall, ((0, 0),)), ([2 * many + 3, 2 * many + 3], 0))

    def test_tuples_and_truths_are_told_where_they_are_asked_for(self):
        hall = ((1, 2), (3, 4))
        self.assertIs(type(parting(hall, other_hall(hall))), tuple)
        self.assertIs(type(alike(hall, hall)), bool)
        self.assertIs(type(greatest(hall, 0, 1)), int)


class TestSteps(unittest.TestCase):
    def steps(self, function, told):
        """Count the lines of the program that an answer goes through."""
        counted = [0]

        def trace(frame, event, _):
            if "movedminutes" not in frame.f_code.co_filename:
                return None
            counted[0] += event == "line"
            return trace

        before = sys.gettrace()
        sys.settrace(trace)
        try:
            function(**told)
        finally:
            sys.settrace(before)
        return counted[0]

    def test_they_do_not_grow_with_the_minutes(self):
        hall = tuple(tuple((3 * i + 5 * k) % 7 for k in range(8)) for i in range(8))
        day = [2 * k for k in range(8)]
        scale = 10 ** 15
        greater = tuple(tuple(scale * minutes for minutes in row) for row in hall)
        late = [scale * time for time in day]
        for (function, told), (_, more) in zip(asked(hall, day), asked(greater, late)):
            many = self.steps(function, told)
            self.assertEqual(self.steps(function, more), many)
            self.assertLess(many, 20000)


if __name__ == "__main__":
    unittest.main()
