"""What holds of every function: what is handed in and told, names, and steps ([2])."""

import copy
import inspect
import random
import sys
import unittest

from movedminutes import covers, customers as customers_file, halls, moves, roads, rooms, sums, texts, ways
from movedminutes import towers as towers_file
from movedminutes.covers import cover, covered, not_led
from movedminutes.customers import customer_back, customer_move, exchanged_customers, turned_about
from movedminutes.errors import TooMany
from movedminutes.halls import held_by, is_hall, last, leavings, waits
from movedminutes.moves import back, can_move, move, moved
from movedminutes.roads import all_led, led, many_led, road, with_totals
from movedminutes.rooms import blocked, is_seen, seen_day
from movedminutes.sums import exchanged, fewest, in_order, settled, to_first, to_last, totals, with_total
from movedminutes.texts import (
    read_day, read_hall, read_road, read_tower, read_way, show_day, show_hall, show_road, show_tower, show_way,
)
from movedminutes.towers import hall_of, towers
from movedminutes.ways import alike, best_way, greatest, parting, spare
from tests.samples import FIFTEEN_FIGURES, KINDS, hall_of_kind, sample_days, sample_halls

INTERFACE = {
    halls: {
        "is_hall": ["thing"], "leavings": ["hall", "day"], "last": ["hall", "day"],
        "waits": ["hall", "day"], "held_by": ["hall", "day", "customer"],
    },
    ways: {
        "greatest": ["hall", "first", "last_one"], "best_way": ["hall", "first", "last_one"],
        "alike": ["hall", "other"], "parting": ["hall", "other"], "spare": ["hall", "counter", "customer"],
    },
    moves: {
        "move": ["hall", "counter"], "back": ["hall", "counter"], "can_move": ["hall", "counter"],
        "moved": ["hall", "counter", "many"],
    },
    sums: {
        "totals": ["hall"], "with_total": ["hall", "counter", "total"], "exchanged": ["hall", "counter"],
        "in_order": ["hall", "totals_wished"], "to_first": ["hall"], "settled": ["hall"], "to_last": ["hall"],
        "fewest": ["hall"],
    },
    covers: {
        "covered": ["hall", "many", "customers"], "cover": ["hall", "many", "customers"],
        "not_led": ["hall", "other"],
    },
    towers_file: {"towers": ["hall"], "hall_of": ["by_customers", "by_counters"]},
    roads: {
        "led": ["hall", "other"], "road": ["hall", "other"], "all_led": ["hall"], "many_led": ["hall"],
        "with_totals": ["hall", "totals_wished"],
    },
    customers_file: {
        "turned_about": ["hall"], "customer_move": ["hall", "customer"], "customer_back": ["hall", "customer"],
        "exchanged_customers": ["hall", "customer"],
    },
    rooms: {
        "blocked": ["hall", "day", "room"], "is_seen": ["hall", "counter", "day", "room"],
        "seen_day": ["hall", "counter", "room"],
    },
    texts: {
        "show_hall": ["hall"], "show_day": ["day"], "show_way": ["way"], "show_tower": ["tower"],
        "show_road": ["road"], "read_hall": ["text"], "read_day": ["text"], "read_way": ["text"],
        "read_tower": ["text"], "read_road": ["text"],
    },
}


def other_hall(hall):
    """A hall of as many customers, and most often of other minutes."""
    return tuple(tuple(reversed(row)) for row in reversed(hall))


def asked_between(hall):
    """Each function of two neighbouring counters with what is handed in to it."""
    counter = (len(hall) - 1) // 2
    neighbours = {"hall": hall, "counter": counter}
    on, off = can_move(hall, counter)
    here = totals(hall)[counter]
    return [
        (move, neighbours), (back, neighbours), (can_move, neighbours), (exchanged, neighbours),
        (moved, {**neighbours, "many": on}), (moved, {**neighbours, "many": -off}),
        (moved, {**neighbours, "many": on + 1}),
        (with_total, {**neighbours, "total": here - on}), (with_total, {**neighbours, "total": here + off + 1}),
    ]


def asked_of_a_hall(hall):
    """Each other function of moves, ways apart and towers with what is handed in to it."""
    counters, customers = len(hall), len(hall[0])
    by_customers, by_counters = towers(hall)
    alone = {"hall": hall}
    bounds = {"hall": hall, "many": (min(counters, customers) + 1) // 2, "customers": (customers + 1) // 2}
    all_bounds = {"hall": hall, "many": min(counters, customers), "customers": customers}
    return [
        (totals, alone), (in_order, {"hall": hall, "totals_wished": totals(hall)[::-1]}),
        (to_first, alone), (to_last, alone), (settled, alone), (fewest, alone),
        (covered, bounds), (cover, bounds), (covered, all_bounds), (cover, all_bounds),
        (not_led, {"hall": hall, "other": other_hall(hall)}), (not_led, {"hall": hall, "other": to_last(hall)}),
        (towers, alone), (hall_of, {"by_customers": by_customers, "by_counters": by_counters}),
    ]


def asked_of_two(hall):
    """Each function of ways and halls alike with what is handed in to it."""
    end = len(hall[0]) - 1
    ends = {"hall": hall, "first": end // 2, "last_one": end}
    halls_two = {"hall": hall, "other": other_hall(hall)}
    return [
        (is_hall, {"thing": hall}), (greatest, ends), (best_way, ends), (alike, halls_two), (parting, halls_two),
        (spare, {"hall": hall, "counter": len(hall) - 1, "customer": end // 2}),
    ]


def asked_of_roads(hall):
    """Each function of halls that are led with what is handed in to it."""
    alone = {"hall": hall}
    asked_ones = [(many_led, alone), (with_totals, {"hall": hall, "totals_wished": totals(hall)[::-1]})]
    for other in (hall, to_first(hall), to_last(hall), other_hall(hall)):
        asked_ones += [(led, {"hall": hall, "other": other}), (road, {"hall": hall, "other": other})]
    if many_led(hall) <= 100:
        asked_ones.append((all_led, alone))
    return asked_ones


def asked_of_customers(hall):
    """Each function between customers with what is handed in to it."""
    if len(hall[0]) == 1:
        return [(turned_about, {"hall": hall})]
    both = {"hall": hall, "customer": (len(hall[0]) - 1) // 2}
    return [
        (turned_about, {"hall": hall}), (customer_move, both), (customer_back, both), (exchanged_customers, both),
    ]


def asked_of_texts(hall):
    """Each function of texts with what is handed in to it."""
    told_road = road(hall, to_last(hall))
    way = best_way(hall, 0, len(hall[0]) - 1)
    shown = [(show_hall, {"hall": hall}), (show_way, {"way": way}), (show_road, {"road": told_road})]
    shown += [(show_day, {"day": last(hall, [0] * len(hall[0]))}), (show_tower, {"tower": towers(hall)[0]})]
    readers = [read_hall, read_way, read_road, read_day, read_tower]
    return shown + [(read, {"text": show(**told)}) for read, (show, told) in zip(readers, shown)]


def asked_of_rooms(hall, day):
    """Each function of counters with few rooms with what is handed in to it."""
    found = [(blocked, {"hall": hall, "day": day, "room": 0}), (blocked, {"hall": hall, "day": day, "room": 2})]
    for counter in range(len(hall) - 1):
        if can_move(hall, counter)[0] > 0:
            found.append((is_seen, {"hall": hall, "counter": counter, "day": day, "room": 1}))
            found.append((seen_day, {"hall": hall, "counter": counter, "room": 0}))
            break
    return found


def asked_without_a_day(hall):
    between = asked_between(hall) if len(hall) > 1 else []
    later = asked_of_roads(hall) + asked_of_customers(hall) + asked_of_texts(hall)
    return asked_of_two(hall) + asked_of_a_hall(hall) + between + later


def asked_on_a_day(hall, day):
    both = {"hall": hall, "day": day}
    told = [(leavings, both), (last, both), (waits, both), (held_by, {**both, "customer": len(hall[0]) - 1})]
    return told + asked_of_rooms(hall, day)


def asked(hall, day):
    """Each function with what is handed in to it, by the names of the interface."""
    return asked_on_a_day(hall, day) + asked_without_a_day(hall)


def everything_asked():
    for hall in sample_halls():
        yield from asked_without_a_day(hall)
        for day in sample_days(hall)[::2]:
            yield from asked_on_a_day(hall, day)


def lists_in(told):
    """All lists within what is told, the inner ones too."""
    if type(told) not in (list, tuple):
        return []
    found = [told] if type(told) is list else []
    for inner in told:
        found += lists_in(inner)
    return found


class TestInterface(unittest.TestCase):
    def test_names_and_arguments_as_written(self):
        for module, functions in INTERFACE.items():
            for name, arguments in functions.items():
                function = getattr(module, name)
                self.assertEqual(function.__module__, module.__name__)
                self.assertEqual(list(inspect.signature(function).parameters), arguments)

    def test_by_name_as_by_place(self):
        for function, told in everything_asked():
            self.assertEqual(function(**told), function(*told.values()))
            turned = dict(reversed(list(told.items())))
            self.assertEqual(function(**turned), function(*told.values()))


class TestHandedInAndTold(unittest.TestCase):
    def test_what_is_handed_in_is_unchanged(self):
        for function, told in everything_asked():
            before = copy.deepcopy(told)
            function(**told)
            self.assertEqual(told, before)

    def test_told_lists_changed_change_nothing(self):
        for function, told in everything_asked():
            before = copy.deepcopy(told)
            answer = function(**told)
            kept = copy.deepcopy(answer)
            for inner in lists_in(answer):
                inner.append("changed")
                inner[0] = None
            self.assertEqual(told, before)
            self.assertEqual(function(**told), kept)

    def test_no_two_told_at_once_are_one_nor_one_handed_in(self):
        for function, told in everything_asked():
            found = lists_in(function(**told)) + lists_in(function(**told)) + lists_in(list(told.values()))
            self.assertEqual(len(found), len({id(inner) for inner in found}))

    def test_lists_handed_in_changed_afterwards_change_nothing(self):
        for hall in sample_halls():
            for function in (leavings, last, waits):
                day = sample_days(hall)[2]
                answer = function(hall, day)
                kept = copy.deepcopy(answer)
                day[0] = "changed"
                day.clear()
                self.assertEqual(answer, kept)
                self.assertEqual(function(hall, sample_days(hall)[2]), kept)

    def test_what_is_told_may_be_handed_in(self):
        for hall in sample_halls():
            day = [0] * len(hall[0])
            for _ in range(3):
                for left in leavings(hall, day):
                    held_by(hall, left, len(left) - 1)
                day = last(hall, day)
            told = parting(hall, other_hall(hall))
            if told is not None:
                self.assertNotEqual(last(hall, told[0]), last(other_hall(hall), told[0]))
                held_by(hall, *told)
            for counter, customer in best_way(hall, 0, len(day) - 1):
                self.assertGreaterEqual(spare(hall, counter, customer), 0)

    def test_what_is_told_of_halls_may_be_handed_in(self):
        for hall in sample_halls():
            told = in_order(to_first(hall), totals(to_last(hall)))
            self.assertEqual(told, to_last(hall))
            self.assertEqual(hall_of(*towers(told)), told)
            if len(hall) > 1:
                on, off = can_move(hall, 0)
                self.assertEqual(moved(moved(hall, 0, on), 0, -on), hall)
                self.assertEqual(with_total(hall, 0, totals(hall)[0] + off), moved(hall, 0, -off))
            apart = not_led(hall, other_hall(hall))
            if apart is not None:
                self.assertEqual(len(cover(hall, *apart)), apart[0])
            for counter, customer in fewest(hall)[1]:
                self.assertGreaterEqual(spare(hall, counter, customer), 0)

    def test_what_is_told_of_roads_and_rooms_may_be_handed_in(self):
        for hall in sample_halls():
            self.assertEqual(read_hall(show_hall(turned_about(turned_about(hall)))), hall)
            self.assertEqual(read_road(show_road(road(hall, to_last(hall)))), road(hall, to_last(hall)))
            day = [0] * len(hall[0])
            for _ in range(3):
                for left in blocked(hall, day, 1):
                    self.assertEqual(read_day(show_day(left)), left)
                day = blocked(hall, day, 0)[-1]
            told = with_totals(hall, totals(hall)[::-1])
            self.assertIs(led(told, hall), True)
            self.assertEqual(blocked(told, day, many_led(hall))[-1], last(hall, day))
            for told in all_led(hall)[:9] if many_led(hall) <= 100 else []:
                self.assertEqual(last(told, day), last(hall, day))

    def test_of_an_empty_road_each_is_a_new_one(self):
        one, other = read_road(""), road(((1, 2),), ((1, 2),))
        one.append((0, 1))
        other.append((0, 1))
        self.assertEqual(read_road(""), [])
        self.assertEqual(road(((1, 2),), ((1, 2),)), [])

    def test_roads_and_rooms_of_more_than_fifteen_figures(self):
        many = 10 ** 40
        hall = ((many, 0), (many + 1, 2))
        self.assertEqual(road(hall, to_first(hall)), [(0, -many - 3)])
        self.assertEqual(many_led(hall), 2 * many + 4)
        self.assertEqual(with_totals(hall, (0, 2 * many + 3)), ((0, 0), (2 * many + 1, 2)))
        self.assertEqual(blocked(hall, [many, many], 0)[-1], [3 * many + 1, 3 * many + 3])
        self.assertEqual(customer_move(hall, 0), ((many, 0), (many, 3)))
        self.assertIsNone(seen_day(hall, 0, many))
        with self.assertRaises(TooMany) as caught:
            all_led(hall)
        self.assertEqual(caught.exception.many, 2 * many + 4)

    def test_moves_of_more_than_fifteen_figures(self):
        many = 10 ** 40
        hall = ((many, 0), (many + 1, 2))
        self.assertEqual(can_move(hall, 0), (many, many + 3))
        self.assertEqual(moved(hall, 0, many), ((0, 0), (2 * many + 1, 2)))
        self.assertEqual(moved(hall, 0, -many - 3), ((2 * many + 1, 2), (0, 0)))
        self.assertEqual(exchanged(hall, 0), ((many + 3, 0), (many - 2, 2)))
        self.assertEqual(with_total(hall, 0, 2 * many), ((2 * many, 0), (1, 2)))
        self.assertEqual(to_first(hall), ((2 * many + 1, 2), (0, 0)))
        self.assertEqual(covered(hall, 1, 1), 2 * many + 1)
        self.assertEqual(hall_of(*towers(hall)), hall)

    def test_numbers_of_more_than_fifteen_figures(self):
        many = 10 ** 40
        hall = ((many, 0), (many + 1, 2))
        self.assertIs(is_hall(hall), True)
        self.assertEqual(last(hall, [many ** 2, many ** 2]), [many ** 2 + 2 * many + 1, many ** 2 + 2 * many + 3])
        self.assertEqual(greatest(hall, 0, 1), 2 * many + 3)
        self.assertEqual(spare(hall, 0, 1), many + 1)
        self.assertEqual(parting(hall, ((0, 0),)), ([2 * many + 3, 2 * many + 3], 0))

    def test_tuples_and_truths_are_told_where_they_are_asked_for(self):
        hall = ((1, 2), (3, 4))
        self.assertIs(type(parting(hall, other_hall(hall))), tuple)
        self.assertIs(type(alike(hall, hall)), bool)
        self.assertIs(type(greatest(hall, 0, 1)), int)


class TestSteps(unittest.TestCase):
    # Where it hangs on the minutes whether there is one, on which day, and how
    # long a text is: these few steps are bounded only.
    OTHERWISE = [moved, with_total, seen_day, read_hall, read_day, read_tower, read_road]

    def steps(self, function, told):
        """Count the lines of the program that an answer goes through."""
        counted = [0]

        def trace(frame, event, _):
            if "movedminutes" not in frame.f_code.co_filename:
                return None
            counted[0] += event == "line"
            return trace

        before = sys.gettrace()
        sys.settrace(trace)
        try:
            function(**told)
        except TooMany:
            pass
        finally:
            sys.settrace(before)
        return counted[0]

    def hold(self, function, many):
        # So many ways of eight customers through eight counters take the most,
        # and next to them the days on which a move may be seen, and a hall of two towers.
        most = {cover: 200000, seen_day: 50000, with_totals: 50000}
        self.assertLess(many, most.get(function, 20000), function)

    def test_they_do_not_grow_with_the_minutes(self):
        hall = tuple(tuple((3 * i + 5 * k) % 7 for k in range(8)) for i in range(8))
        day = [2 * k for k in range(8)]
        scale = 10 ** 15
        greater = tuple(tuple(scale * minutes for minutes in row) for row in hall)
        late = [scale * time for time in day]
        for (function, told), (_, more) in zip(asked(hall, day), asked(greater, late)):
            many = self.steps(function, told)
            self.hold(function, many)
            if function not in self.OTHERWISE:
                self.assertEqual(self.steps(function, more), many, function)

    def test_they_are_few_whatever_the_minutes(self):
        chance = random.Random(4)
        halls_told = [hall_of_kind(chance, 8, 8, kind) for kind in KINDS * 3]
        for hall in halls_told + [((0,) * 8,) * 8, ((FIFTEEN_FIGURES,) * 8,) * 8]:
            for function, told in asked(hall, [0] * 8):
                self.hold(function, self.steps(function, told))

    def test_too_many_halls_are_refused_at_once(self):
        chance = random.Random(5)
        halls_told = [hall_of_kind(chance, 8, 8, kind) for kind in KINDS * 3]
        for hall in halls_told + [((0,) * 7 + (FIFTEEN_FIGURES,),) + ((0,) * 8,) * 7, ((1000,), (0,))]:
            with self.assertRaises(TooMany):
                all_led(hall)
            self.hold(all_led, self.steps(all_led, {"hall": hall}))


if __name__ == "__main__":
    unittest.main()
