"""Led by moves: which halls are, by which moves, and how many they are (stage 5)."""

from movedminutes.errors import TooMany
from movedminutes.halls import check_hall
from movedminutes.moves import carried, leads
from movedminutes.sums import check_totals, settling, to_first, totals
from movedminutes.towers import hall_of, towers
from movedminutes.ways import check_like

MOST_LISTED = 1000


def led(hall, other):
    """Tell whether moves, on or back, lead from one hall to the other."""
    check_like(hall, other)
    return to_first(hall) == to_first(other)


def road(hall, other):
    """Tell a list of (counter, many) that leads from one hall to the other; None where none does."""
    check_like(hall, other)
    first, steps = settling(hall)
    other_first, other_steps = settling(other)
    if first != other_first:
        return None
    # Where both come by one step to one hall they were at one hall ahead of it,
    # too: nobody need go further to meet.
    while steps and other_steps and steps[-1] == other_steps[-1]:
        steps.pop()
        other_steps.pop()
    return steps + [(counter, -many) for counter, many in other_steps[::-1]]


def many_led(hall):
    """Tell how many halls moves lead to, this one among them."""
    most = totals(to_first(hall))
    many = 1
    parts = 1
    for j in range(len(most)):
        for i in range(j):
            many *= most[i] - most[j] + j - i
            parts *= j - i
    return many // parts


def all_led(hall):
    """Tell the list, rising, of all halls that moves lead to, where they are not too many."""
    many = many_led(hall)
    if many > MOST_LISTED:
        raise TooMany(many)
    found = set()
    waiting = [to_first(hall)]
    while waiting:
        told = waiting.pop()
        if told not in found:
            found.add(told)
            waiting.extend(all_one_on(told))
    return sorted(found)


def all_one_on(hall):
    """Tell the halls that one move on leads to, of what is surely a hall."""
    return [
        carried(hall, counter, 1)
        for counter in range(len(hall) - 1)
        if max(leads(hall[counter], hall[counter + 1])) > 0
    ]


def with_totals(hall, totals_wished):
    """Tell a hall with these totals that moves lead to; None where there is none."""
    check_hall(hall)
    check_totals(hall, totals_wished)
    if not can_have(totals(to_first(hall)), totals_wished):
        return None
    by_customers, by_counters = towers(hall)
    return hall_of(by_customers, tower_with_totals(by_counters[-1], totals_wished))


def can_have(most, totals_wished):
    """Tell whether a hall has these totals that is led to one with the most at the first counters."""
    left = 0
    for total, wished in zip(most, sorted(totals_wished, reverse=True)):
        left += total - wished
        if left < 0:
            return False
    return left == 0


def tower_with_totals(last_row, totals_wished):
    """Tell a tower by counters with this last row in which the counters have these totals."""
    # All numbers of a row together are the totals of its counters, so from row
    # to row ahead it loses one counter's.
    rows = [last_row]
    for counter in reversed(range(1, len(totals_wished))):
        left = row_without(rows[-1], totals_wished[counter])
        rows.append(left[:counter])
    return rows[::-1]


def row_without(row, total):
    """Tell a row of a tower that has so much less than this one and can lie ahead of it."""
    # What goes from behind leaves the most to the first so many, however many,
    # and with these the totals of the counters ahead can be had, if at all.
    told = []
    beside = 0
    for number in reversed(row):
        gone = min(total, number - beside)
        told.append(number - gone)
        total -= gone
        beside = number
    return tuple(told[::-1])
