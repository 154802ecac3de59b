"""Towers for the tests, right ones at random and one by one, and wrong ones."""

import itertools

from tests.samples import OTHER_KINDS, nested, one_list, one_tuple


def length_of(row, longest):
    """How many numbers the row of this number has."""
    return min(row + 1, longest)


def bounds_of(next_row, place):
    """The least and the greatest number at a place of a row, by the next row."""
    least = next_row[place + 1] if place + 1 < len(next_row) else 0
    return least, next_row[place]


def tower_at_random(chance, rows, last_row):
    """Some tower of so many rows with this last one."""
    tower = [last_row]
    for row in reversed(range(rows - 1)):
        told = []
        for place in range(length_of(row, len(last_row))):
            least, most = bounds_of(tower[0], place)
            told.append(chance.choice([least, most, chance.randint(least, most)]))
        tower.insert(0, tuple(told))
    return tower


def two_towers_at_random(chance, customers, counters, kind):
    """Some two towers of so many rows with one last row, its numbers of a kind."""
    last_row = tuple(sorted((kind(chance) for _ in range(min(customers, counters))), reverse=True))
    return tower_at_random(chance, customers, last_row), tower_at_random(chance, counters, last_row)


def all_towers(rows, last_row):
    """All towers of so many rows with this last one."""
    found = [[last_row]]
    for row in reversed(range(rows - 1)):
        longer = []
        for tower in found:
            places = range(length_of(row, len(last_row)))
            ranges = [range(least, most + 1) for least, most in (bounds_of(tower[0], place) for place in places)]
            longer += [[told] + tower for told in itertools.product(*ranges)]
        found = longer
    return found


def last_rows(many, most):
    """All rows of so many numbers up to the most that never rise."""
    return [row[::-1] for row in itertools.combinations_with_replacement(range(most + 1), many)]


def all_two_towers(customers, counters, most):
    """All two towers of so many rows with one last row of numbers up to the most."""
    for last_row in last_rows(min(customers, counters), most):
        yield from itertools.product(all_towers(customers, last_row), all_towers(counters, last_row))


# Those of ((3, 1, 2), (2, 4, 1)), and rows that no other tower goes with.
BY_CUSTOMERS = [(5,), (9, 1), (10, 3)]
BY_COUNTERS = [(6,), (10, 3)]

WRONG_KINDS = OTHER_KINDS + [
    0, 1, (), [], {0: (1,)}, "[(1,)]", [[]], [()], [[1]], [1], [None], [True], ["1"], [{}], [(1,)] * 9,
    nested(40, one_list, 1), nested(40, one_tuple, 1), nested(39, one_list, (1,)),
    [(True,)], [(-1,)], [(1.0,)], [("1",)], [(None,)], [((1,),)], [([1],)],
]

# Wrong beside BY_COUNTERS.
WRONG_BY_CUSTOMERS = WRONG_KINDS + [
    tuple(BY_CUSTOMERS), [list(row) for row in BY_CUSTOMERS], {k: row for k, row in enumerate(BY_CUSTOMERS)},
    [[5], (9, 1), (10, 3)], [(5,), [9, 1], (10, 3)], [(5,), (9, 1), [10, 3]], [(5,), None, (10, 3)],
    # Rows too short, too long, too many and too few.
    [(), (9, 1), (10, 3)], [(5, 0), (9, 1), (10, 3)], [(5,), (9,), (10, 3)], [(5,), (9, 1, 0), (10, 3)],
    [(5,), (9, 1), (10,)], [(5,), (9, 1), (10, 3, 0)], [(5,), (9, 1), (10, 3, 0, 0)], [(9, 1), (10, 3)], [(10, 3)],
    [(13,)], [(5,), (9, 1)] + [(10, 3)] * 7, [(5,)] * 3, [(5,), (9, 1), (10, 3), ()],
    # Rows that rise.
    [(5,), (1, 9), (10, 3)], [(5,), (9, 1), (3, 10)], [(0,), (1, 3), (10, 3)],
    # Numbers of no kind to stand there.
    [(True,), (9, 1), (10, 3)], [(5,), (9, True), (10, 3)], [(5,), (9, False), (10, 3)], [(5,), (9, 1), (10.0, 3)],
    [(-5,), (9, 1), (10, 3)], [(5,), (9, -1), (10, 3)], [(5,), (9, None), (10, 3)], [(5,), ("9", 1), (10, 3)],
    # Numbers greater than the one below them, or less than the one beside that.
    [(10,), (9, 1), (10, 3)], [(0,), (9, 1), (10, 3)], [(5,), (11, 1), (10, 3)], [(5,), (9, 4), (10, 3)],
    [(5,), (2, 1), (10, 3)], [(2,), (2, 0), (10, 3)],
    # Other last rows than the other tower's.
    [(5,), (9, 1), (10, 2)], [(5,), (9, 1), (11, 3)], [(5,), (9, 1), (9, 3)], [(0,), (0, 0), (0, 0)],
    BY_COUNTERS[:1] + [(10, 4)], [(5,), (9, 1), (10, 3), (10, 4)],
]

# Wrong beside BY_CUSTOMERS.
WRONG_BY_COUNTERS = WRONG_KINDS + [
    tuple(BY_COUNTERS), [list(row) for row in BY_COUNTERS], [[6], (10, 3)], [(6,), [10, 3]], [(6,), None],
    [(), (10, 3)], [(6, 0), (10, 3)], [(6,), (10,)], [(6,), (10, 3, 0)], [(10, 3)], [(6,)], [(13,)],
    # With so many rows the last ones would have to be longer.
    [(6,), (10, 3), (10, 3)], [(6,), (10, 3), (10, 3, 0, 0)], [(6,)] + [(10, 3)] * 8, [(6,)] * 2,
    [(6,), (3, 10)], [(True,), (10, 3)], [(6,), (10, True)], [(6,), (10, 3.0)], [(-6,), (10, 3)], [(6,), (10, -3)],
    [(11,), (10, 3)], [(2,), (10, 3)], [(6,), (10, 2)], [(6,), (11, 3)], [(6,), (11, 2)], [(0,), (0, 0)],
]
