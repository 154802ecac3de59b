"""Writing: show_hall and its kin, read_hall and its kin ([24])."""

import itertools
import random
import re
import unittest

from movedminutes.errors import NoText, NoTowers
from movedminutes.halls import is_hall, last, leavings
from movedminutes.rooms import blocked, seen_day
from movedminutes.roads import road
from movedminutes.sums import to_first, to_last
from movedminutes.texts import (
    read_day, read_hall, read_road, read_tower, read_way, show_day, show_hall, show_road, show_tower, show_way,
)
from movedminutes.covers import cover
from movedminutes.moves import move
from movedminutes.towers import hall_of, towers
from movedminutes.ways import best_way, parting
from tests.samples import FIFTEEN_FIGURES, KINDS, hall_of_kind, pairs, sample_days, sample_halls, ways_of
from tests.tower_samples import two_towers_at_random

NUMBER = "(?:0|[1-9][0-9]*)"
ROW = f"{NUMBER}(?: {NUMBER})*"
FORMS = {
    read_hall: f"{ROW}(?:/{ROW})*", read_day: ROW, read_way: r"[0-7]\.[0-7](?:-[0-7]\.[0-7])*",
    read_tower: rf"{ROW}(?:\|{ROW})*", read_road: "(?:[0-6]:-?[1-9][0-9]*(?: [0-6]:-?[1-9][0-9]*)*)?",
}


def numbers(row):
    return [int(word) for word in row.split(" ")]


def is_right_way(cells):
    steps = zip(cells, cells[1:])
    return cells[0][0] == 0 and all((c - a, d - b) in ((0, 1), (1, 0)) for (a, b), (c, d) in steps)


def is_right_tower(rows):
    """Whether some two towers of one hall hold these rows, by asking for the hall."""
    for many in range(1, 9):
        other = [rows[-1][:r + 1] for r in range(many)]
        try:
            hall_of(rows, other)
        except NoTowers:
            continue
        return True
    return False


def read_anew(read, text):
    """What a text writes, by its form and by what its parts must be; None where it writes nothing."""
    if not re.fullmatch(FORMS[read], text):
        return None
    if read is read_hall:
        told = tuple(tuple(numbers(row)) for row in text.split("/"))
        right = len(told) <= 8 and {len(row) for row in told} in [{many} for many in range(1, 9)]
    elif read is read_day:
        told = numbers(text)
        right = len(told) <= 8 and told == sorted(told)
    elif read is read_way:
        told = [tuple(map(int, word.split("."))) for word in text.split("-")]
        right = is_right_way(told)
    elif read is read_tower:
        told = [tuple(numbers(row)) for row in text.split("|")]
        right = is_right_tower(told)
    else:
        told = [tuple(map(int, word.split(":"))) for word in text.split(" ") if word]
        right = True
    return told if right else None


def read_if_any(read, text):
    try:
        return read(text)
    except NoText:
        return None


def kinds_of(thing):
    """The kinds of a thing and of all within it."""
    if type(thing) in (list, tuple):
        return (type(thing), [kinds_of(part) for part in thing])
    return type(thing)


def sample_ways():
    for counters, customers in itertools.product(range(1, 9), repeat=2):
        for first, last_one in [(0, customers - 1), (customers - 1, customers - 1), (customers // 2, customers - 1)]:
            yield ways_of(counters, first, last_one)[-1]
            yield ways_of(counters, first, last_one)[0]
    yield from ways_of(4, 1, 4)


def sample_towers():
    chance = random.Random(1)
    for customers, counters in itertools.product(range(1, 9), repeat=2):
        for kind in KINDS:
            yield from two_towers_at_random(chance, customers, counters, kind)


def sample_roads():
    chance = random.Random(2)
    some = [1, 9, 10, FIFTEEN_FIGURES] + [chance.randint(1, FIFTEEN_FIGURES) for _ in range(20)]
    yield []
    for length in list(range(1, 9)) * 8 + [60, 200]:
        yield [(chance.randrange(7), chance.choice([-1, 1]) * chance.choice(some)) for _ in range(length)]


def sample_things():
    """Each way of writing, the one of reading it, and things of which it tells."""
    return [
        (show_hall, read_hall, sample_halls()),
        (show_day, read_day, [day for hall in sample_halls() for day in sample_days(hall)]),
        (show_way, read_way, list(sample_ways())),
        (show_tower, read_tower, list(sample_towers())),
        (show_road, read_road, list(sample_roads())),
    ]


def write_anew(show, thing):
    """The text of a thing, by the signs between its parts."""
    if show is show_hall or show is show_tower:
        return ("/" if show is show_hall else "|").join(" ".join(map(str, row)) for row in thing)
    if show is show_day:
        return " ".join(map(str, thing))
    inner, outer = (".", "-") if show is show_way else (":", " ")
    return outer.join(inner.join(map(str, part)) for part in thing)


class TestWriting(unittest.TestCase):
    def test_by_the_signs_between_the_parts(self):
        for show, _, things in sample_things():
            for thing in things:
                self.assertEqual(show(thing), write_anew(show, thing))

    def test_what_is_written_is_read_back_by_its_kind(self):
        for show, read, things in sample_things():
            for thing in things:
                told = read(show(thing))
                self.assertEqual(told, thing)
                self.assertEqual(kinds_of(told), kinds_of(thing))
                self.assertIs(type(show(thing)), str)

    def test_what_is_read_is_written_as_the_very_text(self):
        for show, read, things in sample_things():
            for text in {write_anew(show, thing) for thing in things}:
                self.assertEqual(show(read(text)), text)

    def test_each_has_a_writing_of_its_own(self):
        for show, _, things in sample_things():
            told = {show(thing): thing for thing in things}
            for thing in things:
                self.assertEqual(told[show(thing)], thing)

    def test_halls_told_by_hand(self):
        self.assertEqual(show_hall(((3, 1, 2), (2, 4, 1))), "3 1 2/2 4 1")
        self.assertEqual(read_hall("3 1 2/2 4 1"), ((3, 1, 2), (2, 4, 1)))
        self.assertEqual(show_hall(((0,),)), "0")
        self.assertEqual(read_hall("0"), ((0,),))
        self.assertEqual(read_hall("1/2/3"), ((1,), (2,), (3,)))
        self.assertEqual(read_hall("10 0 20"), ((10, 0, 20),))
        self.assertEqual(read_hall("/".join(["0 0 0 0 0 0 0 0"] * 8)), ((0,) * 8,) * 8)

    def test_days_told_by_hand(self):
        self.assertEqual(show_day([0, 1, 9]), "0 1 9")
        self.assertEqual(read_day("0 1 9"), [0, 1, 9])
        self.assertEqual(show_day([7]), "7")
        self.assertEqual(read_day("7"), [7])
        self.assertEqual(read_day("5 5 5 5 5 5 5 5"), [5] * 8)

    def test_ways_told_by_hand(self):
        self.assertEqual(show_way([(0, 0), (1, 0), (1, 1)]), "0.0-1.0-1.1")
        self.assertEqual(read_way("0.0-1.0-1.1"), [(0, 0), (1, 0), (1, 1)])
        # Of one cell, to whichever end, up to the last number.
        for customer in range(8):
            self.assertEqual(show_way([(0, customer)]), f"0.{customer}")
            self.assertEqual(read_way(f"0.{customer}"), [(0, customer)])
        self.assertEqual(read_way("0.6-0.7-1.7"), [(0, 6), (0, 7), (1, 7)])
        longest = [(0, k) for k in range(8)] + [(i, 7) for i in range(1, 8)]
        self.assertEqual(read_way(show_way(longest)), longest)

    def test_towers_told_by_hand(self):
        self.assertEqual(show_tower([(5,), (9, 1), (10, 3)]), "5|9 1|10 3")
        self.assertEqual(read_tower("5|9 1|10 3"), [(5,), (9, 1), (10, 3)])
        self.assertEqual(show_tower([(0,)]), "0")
        self.assertEqual(read_tower("0"), [(0,)])
        # No longer from some row on, or from the first.
        self.assertEqual(read_tower("1|1|4"), [(1,), (1,), (4,)])
        self.assertEqual(read_tower("1|1 0|2 1|2 2|9 2"), [(1,), (1, 0), (2, 1), (2, 2), (9, 2)])
        self.assertEqual(show_tower([(0,) * (r + 1) for r in range(8)]).count("0"), 36)
        self.assertEqual(read_tower("|".join("0" * 8)), [(0,)] * 8)

    def test_roads_told_by_hand(self):
        self.assertEqual(show_road([(0, 3), (6, -12)]), "0:3 6:-12")
        self.assertEqual(read_road("0:3 6:-12"), [(0, 3), (6, -12)])
        self.assertEqual(show_road([]), "")
        self.assertEqual(read_road(""), [])
        self.assertEqual(read_road("0:1 0:1 0:-1"), [(0, 1), (0, 1), (0, -1)])
        self.assertEqual(show_road([(0, 10)]), "0:10")
        self.assertEqual(read_road("0:-10"), [(0, -10)])


class TestReading(unittest.TestCase):
    def hold(self, read, text):
        told = read_if_any(read, text)
        self.assertEqual(told, read_anew(read, text), text)
        return told is not None

    def hold_all(self, read, signs, longest):
        """Hold all texts of so many of these signs, some of which write something."""
        right = sum(
            self.hold(read, "".join(text))
            for many in range(longest + 1) for text in itertools.product(signs, repeat=many)
        )
        self.assertGreater(right, 2)

    def test_all_short_texts(self):
        self.hold_all(read_hall, "01 /", 6)
        self.hold_all(read_day, "012 ", 6)
        self.hold_all(read_day, "01 -", 4)
        self.hold_all(read_way, "01.-", 7)
        self.hold_all(read_way, "0178.", 3)
        self.hold_all(read_tower, "01 |", 6)
        self.hold_all(read_tower, "12 |", 6)
        self.hold_all(read_road, "01:- ", 5)
        self.hold_all(read_road, "0267:", 4)

    def test_texts_with_a_sign_changed(self):
        chance = random.Random(3)
        signs = "0123456789 /|-.:+a\n"
        for show, read, things in sample_things():
            met = {True: 0, False: 0}
            for thing in chance.sample(things, min(len(things), 60)):
                text = show(thing)
                for _ in range(15):
                    at = chance.randint(0, len(text))
                    put = chance.choice(["", chance.choice(signs), chance.choice(signs)])
                    changed = text[:at] + put + text[at + chance.choice([0, 1]):]
                    met[self.hold(read, changed)] += 1
            self.assertGreater(min(met.values()), 20, read)

    def test_towers_short_and_small(self):
        rows = [row for many in range(1, 4) for row in itertools.product(range(2), repeat=many)]
        right = 0
        for many in range(1, 4):
            for tower in itertools.product(rows, repeat=many):
                right += self.hold(read_tower, write_anew(show_tower, tower))
        self.assertGreater(right, 20)

    def test_ways_short_and_small(self):
        cells = list(itertools.product(range(3), repeat=2))
        for many in range(1, 5):
            for way in itertools.product(cells, repeat=many):
                self.hold(read_way, write_anew(show_way, way))

    def test_halls_and_days_of_up_to_ten_parts(self):
        for rows, many in itertools.product(range(1, 11), repeat=2):
            text = "/".join([" ".join(["4"] * many)] * rows)
            self.assertIs(self.hold(read_hall, text), rows <= 8 and many <= 8)
            self.assertIs(self.hold(read_day, " ".join(["4"] * many)), many <= 8)

    def test_numbers_of_many_figures(self):
        for figures in ("1" + "0" * 14, "9" * 15, "1" + "0" * 63, "1" + "0" * 64, "9" * 64, "9" * 65, "12" + "0" * 200):
            number = int(figures)
            self.assertEqual(show_hall(((number,), (0,))), figures + "/0")
            self.assertEqual(read_hall(figures + "/0"), ((number,), (0,)))
            self.assertEqual(show_day([1, number]), "1 " + figures)
            self.assertEqual(read_day("1 " + figures), [1, number])
            self.assertEqual(show_tower([(number,), (number, 0)]), f"{figures}|{figures} 0")
            self.assertEqual(read_tower(f"{figures}|{figures} 0"), [(number,), (number, 0)])
            self.assertEqual(show_road([(3, -number), (0, number)]), f"3:-{figures} 0:{figures}")
            self.assertEqual(read_road(f"3:-{figures} 0:{figures}"), [(3, -number), (0, number)])

    def test_texts_of_three_thousand_signs_and_more(self):
        # Python by itself refuses to write and to read so many figures.
        for many in (2999, 3000, 6000):
            figures = "7" * many
            self.assertEqual(read_day(figures), [(10 ** many - 1) // 9 * 7])
            self.assertEqual(show_day(read_day(figures)), figures)
            self.assertEqual(show_hall(read_hall(figures)), figures)
            self.assertEqual(show_tower(read_tower(figures)), figures)
            self.assertEqual(show_road(read_road("0:-" + figures)), "0:-" + figures)
            self.assertIsNone(read_if_any(read_day, "0" + figures))
            self.assertIsNone(read_if_any(read_way, "0." + figures))


class TestToldThings(unittest.TestCase):
    """What the other files tell is written and read back, too."""

    def hold(self, show, read, thing):
        self.assertEqual(read(show(thing)), thing)

    def test_all_that_is_told_of_halls(self):
        for hall in sample_halls():
            for told in (to_first(hall), to_last(hall)):
                self.assertTrue(is_hall(read_hall(show_hall(told))))
                self.hold(show_hall, read_hall, told)
                self.hold(show_road, read_road, road(hall, told))
            for tower in towers(hall):
                self.hold(show_tower, read_tower, tower)
            for first, last_one in pairs(hall)[::5]:
                self.hold(show_way, read_way, best_way(hall, first, last_one))
            for way in cover(hall, 1, len(hall[0])):
                self.hold(show_way, read_way, way)

    def test_all_days_that_are_told(self):
        for hall in sample_halls():
            for day in sample_days(hall)[:3]:
                for told in [last(hall, day)] + leavings(hall, day) + blocked(hall, day, 1):
                    self.hold(show_day, read_day, told)
            told = parting(hall, tuple(row[::-1] for row in hall))
            if told is not None:
                self.hold(show_day, read_day, told[0])
            for counter in range(len(hall) - 1):
                day = seen_day(hall, counter, 0) if move(hall, counter) is not None else None
                if day is not None:
                    self.hold(show_day, read_day, day)

    def test_roads_of_very_many_minutes_are_short_enough(self):
        chance = random.Random(4)
        for _ in range(30):
            hall = hall_of_kind(chance, 8, 8, KINDS[3])
            for other in (to_first(hall), to_last(hall)):
                self.assertLess(len(show_road(road(hall, other))), 3000)
                self.assertLess(len(show_road(road(other, hall))), 3000)


if __name__ == "__main__":
    unittest.main()
