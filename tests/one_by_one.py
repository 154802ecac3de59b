"""Second ways of working out moves, covers and towers: one move, one way, one cell at a time."""

import itertools
from functools import lru_cache

from tests.samples import listed_greatest, ways_of


def leads_anew(hall, counter):
    """The leads between a counter and the next, each added up by itself."""
    here, there = hall[counter], hall[counter + 1]
    return [sum(here[:c + 1]) - sum(there[:c]) for c in range(len(here))]


def minute_gone(hall, counter, customer, minutes):
    """The hall in which so many minutes of a customer have gone to the next counter."""
    rows = [list(row) for row in hall]
    rows[counter][customer] -= minutes
    rows[counter + 1][customer] += minutes
    return tuple(map(tuple, rows))


def one_on(hall, counter):
    leads = leads_anew(hall, counter)
    if max(leads) == 0:
        return None
    first = min(c for c, lead in enumerate(leads) if lead == max(leads))
    return minute_gone(hall, counter, first, 1)


def one_back(hall, counter):
    both = hall[counter:counter + 2]
    if listed_greatest(both, 0, len(both[0]) - 1) == sum(both[0]):
        return None
    leads = leads_anew(hall, counter)
    last = max(c for c, lead in enumerate(leads) if lead == max(leads))
    return minute_gone(hall, counter, last, -1)


def all_by(step, hall, counter):
    """The hall and all that single moves of one sort between two counters lead to, one behind another."""
    found = [hall]
    while (told := step(found[-1], counter)) is not None:
        found.append(told)
    return found


def led_between(hall, counter):
    """All halls that single moves between two counters lead to, by how many moves on they are."""
    on = all_by(one_on, hall, counter)
    off = all_by(one_back, hall, counter)
    return {**{-many: told for many, told in enumerate(off)}, **dict(enumerate(on))}


def led_by_moves(hall):
    """All halls that single moves, between whichever counters, lead to."""
    found = {hall}
    open_ones = [hall]
    while open_ones:
        here = open_ones.pop()
        for counter in range(len(hall) - 1):
            for told in (one_on(here, counter), one_back(here, counter)):
                if told is not None and told not in found:
                    found.add(told)
                    open_ones.append(told)
    return found


def at_random_to_the_end(step, hall, chance):
    """What comes of single moves of one sort in a random order, until there is none."""
    while True:
        found = [told for i in range(len(hall) - 1) if (told := step(hall, i)) is not None]
        if not found:
            return hall
        hall = chance.choice(found)


def ways_among(counters, customers):
    """All ways from some customer to some customer among the first so many."""
    return [
        way
        for first in range(customers) for last_one in range(first, customers)
        for way in ways_of(counters, first, last_one)
    ]


@lru_cache(maxsize=None)
def lots_of_cells(counters, many, customers):
    """All lots of cells that lie on so many ways among the first so many customers."""
    ways = [frozenset(way) for way in ways_among(counters, customers)]
    many_other = min(many, len(ways))
    return {frozenset().union(*lot) for lot in itertools.combinations(ways, many_other)}


def minutes_of(hall, cells):
    return sum(hall[counter][customer] for counter, customer in cells)


def listed_covered(hall, many, customers):
    return max(minutes_of(hall, cells) for cells in lots_of_cells(len(hall), many, customers))


def shapes_grown(hall):
    """What 1, 2, .. ways cover more than one fewer, of the first so many counters and customers.

    Grown cell by cell, by what they are of one counter, of one customer and of
    both fewer; of halls of every size.
    """
    counters, customers = len(hall), len(hall[0])
    noughts = [0] * min(counters, customers)
    shapes = {(i, k): noughts for i in range(counters + 1) for k in range(customers + 1)}
    for i in range(counters):
        for k in range(customers):
            rest, told = hall[i][k], []
            for above, left, both in zip(shapes[i, k + 1], shapes[i + 1, k], shapes[i, k]):
                told.append(max(above, left) + rest)
                rest = min(above, left) - both
            shapes[i + 1, k + 1] = told
    return shapes


def grown_covers(hall):
    """What so many ways cover of the first so many customers, by (many, customers)."""
    shapes = shapes_grown(hall)
    return {
        (many, customers): sum(shapes[len(hall), customers][:many])
        for many in range(min(len(hall), len(hall[0])) + 1) for customers in range(len(hall[0]) + 1)
    }


def turned(hall):
    """The hall with counters and customers exchanged."""
    return tuple(zip(*hall))


def tower_of_covers(hall, covered):
    """The tower by customers as it is said: what each way more covers among the first so many."""
    rows = []
    for customers in range(1, len(hall[0]) + 1):
        covers = [covered(hall, many, customers) for many in range(min(customers, len(hall)) + 1)]
        rows.append(tuple(b - a for a, b in zip(covers, covers[1:])))
    return rows


def towers_of_covers(hall, covered):
    return tower_of_covers(hall, covered), tower_of_covers(turned(hall), covered)
