"""Towers: the two that tell a hall, and the hall that two tell (stage 7)."""

from movedminutes.errors import NoTowers
from movedminutes.halls import MOST, check_hall, is_whole
from movedminutes.sums import to_first, to_last, with_total


def tower_by_customers(hall):
    """Tell the tower by customers of what is surely a hall."""
    # Where no move on can be done, the last counters have what ways cover of
    # the first customers, however many, the last one the most.
    gone_on = to_last(hall)[::-1]
    return [
        tuple([sum(row[:many]) for row in gone_on[:many]])
        for many in range(1, len(hall[0]) + 1)
    ]


def towers(hall):
    """Tell the tower by customers and the tower by counters."""
    check_hall(hall)
    return (tower_by_customers(hall), tower_by_customers(tuple(zip(*hall))))


def is_tower_row(thing, many):
    """Tell whether anything is a tuple of so many whole numbers from 0 on."""
    if type(thing) is not tuple or len(thing) != many:
        return False
    return all(is_whole(number) for number in thing)


def lies_on(row, next_row):
    """Tell whether each number of a row may stand where it does, by the next row."""
    if not all(number <= below for number, below in zip(row, next_row)):
        return False
    return all(number >= beside for number, beside in zip(row, next_row[1:]))


def is_tower(thing, longest):
    """Tell whether a list is a tower whose rows grow to so many numbers."""
    # That no row rises need not be asked: where the rows lie on one another, a
    # number of one stands between any two side by side in the row next to it.
    if not all(is_tower_row(thing[r], min(r + 1, longest)) for r in range(len(thing))):
        return False
    return all(lies_on(thing[r], thing[r + 1]) for r in range(len(thing) - 1))


def is_short_list(thing):
    """Tell whether anything is a list of one to eight things."""
    return type(thing) is list and 1 <= len(thing) <= MOST


def check_towers(by_customers, by_counters):
    """Refuse what are no two towers with one last row."""
    if not is_short_list(by_customers) or not is_short_list(by_counters):
        raise NoTowers()
    longest = min(len(by_customers), len(by_counters))
    if not is_tower(by_customers, longest) or not is_tower(by_counters, longest):
        raise NoTowers()
    if by_customers[-1] != by_counters[-1]:
        raise NoTowers()


def number_at(row, place):
    """Tell the number at a place of a tower's row, 0 where the row has ended."""
    return row[place] if place < len(row) else 0


def hall_of(by_customers, by_counters):
    """Tell the hall with these towers."""
    check_towers(by_customers, by_counters)
    # No move changes the tower by customers: from any hall that has it, moves
    # lead to the one that has the other tower, too.
    told = to_first(hall_gone_on(by_customers, len(by_counters)))
    for behind in reversed(range(1, len(by_counters))):
        # The counters up to this one have the totals of their row of the tower
        # by counters, as to_first leaves them; now those ahead get theirs.
        for counter in range(behind):
            told = with_total(told, counter, number_at(by_counters[behind - 1], counter))
    return told


def hall_gone_on(by_customers, counters):
    """Tell the hall of so many counters with this tower by customers where no move on can be done."""
    rows = []
    for place in range(counters):
        ahead = 0
        minutes = []
        for row in by_customers:
            minutes.append(number_at(row, place) - ahead)
            ahead = number_at(row, place)
        rows.append(tuple(minutes))
    return tuple(rows[::-1])
