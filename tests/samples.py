"""Halls, days and wrong things for the tests, and second ways of working the answers out."""

import itertools
import random
import unittest.mock
from functools import lru_cache

FIFTEEN_FIGURES = 10 ** 15 - 1


def noughts(chance):
    return chance.choice([0, 0, 0, 1, 5])


def small(chance):
    return chance.randint(0, 3)


def middling(chance):
    return chance.randint(0, 40)


def great(chance):
    return chance.choice([chance.randint(0, FIFTEEN_FIGURES), FIFTEEN_FIGURES, 0])


KINDS = [noughts, small, middling, great]


def hall_of_kind(chance, counters, customers, kind):
    return tuple(tuple(kind(chance) for _ in range(customers)) for _ in range(counters))


@lru_cache(maxsize=None)
def sample_halls():
    """A hall of each kind of minutes for each number of counters and of customers."""
    chance = random.Random(2)
    return [
        hall_of_kind(chance, counters, customers, kind)
        for counters in range(1, 9)
        for customers in range(1, 9)
        for kind in KINDS
    ] + [((0,),), ((0,) * 8,) * 8, ((FIFTEEN_FIGURES,) * 8,) * 8]


def all_minutes(hall):
    return sum(map(sum, hall))


def sample_days(hall):
    """Days on which all come at once, close to one another, far apart, and some of each."""
    chance = random.Random(all_minutes(hall))
    customers = len(hall[0])
    far = all_minutes(hall) + 1
    gaps = [
        [0] * customers,
        [7] + [0] * (customers - 1),
        [chance.randint(0, 3) for _ in range(customers)],
        [chance.randint(0, far // customers + 1) for _ in range(customers)],
        [far] * customers,
        [chance.choice([0, 1, far]) for _ in range(customers)],
    ]
    return [list(itertools.accumulate(row)) for row in gaps]


def hall_days():
    for hall in sample_halls():
        for day in sample_days(hall):
            yield hall, day


def small_halls(counters, customers, most):
    """All halls of so many counters and customers with minutes up to the most."""
    cells = itertools.product(range(most + 1), repeat=counters * customers)
    return [
        tuple(told[i * customers:(i + 1) * customers] for i in range(counters))
        for told in cells
    ]


def days_up_to(customers, latest):
    return [list(day) for day in itertools.combinations_with_replacement(range(latest + 1), customers)]


@lru_cache(maxsize=None)
def ways_of(counters, first, last_one):
    """All ways from a customer to another, by which steps go to the next counter."""
    steps = counters - 1 + last_one - first
    found = []
    for on in itertools.combinations(range(steps), counters - 1):
        way = [(0, first)]
        for step in range(steps):
            counter, customer = way[-1]
            way.append((counter + 1, customer) if step in on else (counter, customer + 1))
        found.append(way)
    return found


def worth(hall, way):
    return sum(hall[counter][customer] for counter, customer in way)


def listed_greatest(hall, first, last_one):
    return max(worth(hall, way) for way in ways_of(len(hall), first, last_one))


def listed_best_way(hall, first, last_one):
    most = listed_greatest(hall, first, last_one)
    return min(way for way in ways_of(len(hall), first, last_one) if worth(hall, way) == most)


def pairs(hall):
    customers = len(hall[0])
    return [(first, k) for first in range(customers) for k in range(first, customers)]


def raised_leavings(hall, day):
    """The least times that no rule forbids, found by raising them until none is broken."""
    left = [[0] * len(day) for _ in hall]
    changed = True
    while changed:
        changed = False
        for i in reversed(range(len(hall))):
            for k in reversed(range(len(day))):
                bounds = [day[k]]
                if i:
                    bounds.append(left[i - 1][k])
                if k:
                    bounds.append(left[i][k - 1])
                if left[i][k] < max(bounds) + hall[i][k]:
                    left[i][k] = max(bounds) + hall[i][k]
                    changed = True
    return left


def with_more(hall, counter, customer, minutes):
    """The hall in which one cell has so many minutes more."""
    rows = [list(row) for row in hall]
    rows[counter][customer] += minutes
    return tuple(map(tuple, rows))


class Liar:
    """Claims to be a tuple."""

    __class__ = tuple


class ListLiar:
    """Claims to be a list."""

    __class__ = list


class Grump:
    """Lets nothing be done with it."""

    def _refuse(self, *told):
        raise RuntimeError("nothing may be done with this")

    __eq__ = __lt__ = __gt__ = __len__ = __iter__ = __bool__ = __getitem__ = _refuse
    __int__ = __index__ = __contains__ = __hash__ = __repr__ = __getattr__ = _refuse


def nested(many, wrap, inmost):
    for _ in range(many):
        inmost = wrap(inmost)
    return inmost


def one_tuple(thing):
    return (thing,)


def one_list(thing):
    return [thing]


OTHER_KINDS = [
    None, True, False, 1.0, 2.5, 1j, "", "1", "(1,)", b"", b"1", bytearray(b"1"), {}, {0: 1},
    set(), {1}, frozenset({(1,)}), range(2), object(), len, int, tuple, lambda: 1, ..., NotImplemented,
    iter([1]), ValueError("1"), float("nan"), float("inf"), unittest.mock, unittest.mock.Mock(spec=tuple),
    Liar(), ListLiar(), Grump(),
]

WRONG_HALLS = OTHER_KINDS + [
    0, 1, -1, [], [1], [[1]], [(1,)], (), ([1],), ([],), ({},), ("1",), (b"1",), ("",),
    ((),), ((), ()), ((1,), ()), ((), (1,)),
    ((1, 2), (3,)), ((1,), (2, 3)), ((1, 2), (3, 4), (5, 6, 7)), ((1, 2), (3, 4), (5,)),
    (1,), (1, 2), ((1,), 2), (1, (2,)), ((1, 2), [3, 4]), ([1, 2], (3, 4)), (range(2),), ({0: 1},),
    ((True,),), ((False,),), ((1, True), (2, 3)), ((1, 2), (3, False)),
    ((-1,),), ((1, 2), (3, -1)), ((-(10 ** 15), 1),), ((0,), (-1,)),
    ((1.0,),), (("1",),), ((None,),), ((1, None),), (((1,),),), (([1],),), ((1j,),), ((b"1",),),
    ((Grump(),),), (Grump(),), ((Liar(),),), (Liar(),), ((1,), None),
    ((1,),) * 9, ((1,) * 9,), ((1,) * 9,) * 9, ((1,) * 8,) * 9, ((1,) * 9,) * 8, ((0,),) * 100,
    nested(3, one_tuple, 1), nested(40, one_tuple, 1), nested(40, one_tuple, ()),
    nested(40, one_list, 1), (nested(38, one_tuple, 1), (1,)), ((nested(38, one_list, 1),),),
]


def wrong_days(customers):
    """Things that are no day of a hall of so many customers."""
    days = OTHER_KINDS + [
        0, 1, (), (0,) * customers, [], [0] * (customers - 1), [0] * (customers + 1),
        [None] * customers, ["0"] * customers, [0.0] * customers, [[0]] * customers, [(0,)] * customers,
        [True] * customers, [False] * customers, [-1] * customers, [Grump()] * customers,
        [[0] * customers], nested(40, one_list, 0), nested(39, one_list, [0] * customers),
        [0] * (customers - 1) + [True], [0] * (customers - 1) + [None], [0] * (customers - 1) + [-1],
        [-1] + [0] * (customers - 1), [False] + [0] * (customers - 1), [0] * 9,
    ]
    if customers > 1:
        days += [
            [1] + [0] * (customers - 1), list(reversed(range(customers))),
            [5] * (customers - 1) + [4], [10 ** 15] + [10 ** 15 - 1] * (customers - 1),
        ]
    return days


# Things that are no whole number, above 0 or below.
WRONG_WHOLES = OTHER_KINDS + [
    [], [0], (), (0,), ((0,),), 0.0, -1.0, "0", "-1", nested(40, one_list, 0), nested(40, one_tuple, 0),
]


def wrong_totals(totals):
    """Things that are no totals of a hall that has these."""
    wrong = OTHER_KINDS + [
        0, 1, sum(totals), (), [], list(totals), {at: total for at, total in enumerate(totals)}, str(totals),
        totals[:-1], totals[1:], totals + (0,), (0,) + totals, totals * 2, totals[:1] * 9,
        (totals,), (totals,) * len(totals), nested(40, one_tuple, 0), nested(39, one_tuple, totals),
    ]
    for at in range(len(totals)):
        for number in (-1, -totals[at] - 1, True, False, None, 1.0, float(totals[at]), "1", (1,), [1], Grump()):
            wrong.append(totals[:at] + (number,) + totals[at + 1:])
    return wrong


def wrong_numbers(many):
    """Things that are no number of one of so many."""
    return OTHER_KINDS + [
        -1, -many, many, many + 1, 8, 9, 10 ** 15, -(10 ** 15), 10 ** 40,
        [], [0], (), (0,), ((0,),), 0.0, "0", nested(40, one_list, 0), nested(40, one_tuple, 0),
    ]
