"""The totals of the counters, and the halls that moves lead to for them (stage 4)."""

from movedminutes.errors import NoNumber, NoTotals, Unlike
from movedminutes.halls import check_hall, is_whole
from movedminutes.moves import carried, check_neighbours, most_moves, moved


def check_totals(hall, thing):
    """Refuse what is no tuple of whole numbers, one for each counter of this hall."""
    if type(thing) is not tuple or len(thing) != len(hall):
        raise NoTotals()
    if not all(is_whole(total) for total in thing):
        raise NoTotals()


def totals(hall):
    """Tell all minutes at each counter."""
    check_hall(hall)
    return tuple([sum(row) for row in hall])


def with_total(hall, counter, total):
    """Tell the hall led to between two neighbours where the first has this total; None where none is."""
    check_neighbours(hall, counter)
    if not is_whole(total):
        raise NoNumber()
    return moved(hall, counter, sum(hall[counter]) - total)


def exchanged(hall, counter):
    """Tell the hall led to between two neighbours where their totals have changed places."""
    check_neighbours(hall, counter)
    return carried(hall, counter, sum(hall[counter]) - sum(hall[counter + 1]))


def in_order(hall, totals_wished):
    """Tell the hall led to by exchanges in which the totals are these."""
    check_hall(hall)
    check_totals(hall, totals_wished)
    if sorted(totals(hall)) != sorted(totals_wished):
        raise Unlike()
    told = hall
    for place, total in enumerate(totals_wished):
        at = totals(told).index(total, place)
        for counter in reversed(range(place, at)):
            told = exchanged(told, counter)
    return told


def settling(hall):
    """Tell the hall that comes of all moves back that there are, and the list of (counter, many) to it."""
    told = hall
    steps = []
    for behind in range(1, len(hall)):
        # All counters ahead of this one are settled by now; then one pass from
        # it to the first settles it too, so nothing is to be done twice.
        for counter in reversed(range(behind)):
            _, most_back = most_moves(told[counter], told[counter + 1])
            if most_back > 0:
                told = carried(told, counter, -most_back)
                steps.append((counter, -most_back))
    return (told, steps)


def to_first(hall):
    """Tell the hall that comes of all moves back that there are."""
    check_hall(hall)
    return settling(hall)[0]


def settled(hall):
    """Tell whether no move back can be done."""
    check_hall(hall)
    return all(most_moves(hall[i], hall[i + 1])[1] == 0 for i in range(len(hall) - 1))


def seen_from_behind(hall):
    """Tell the hall with its counters and its customers in turned order."""
    return tuple([row[::-1] for row in hall[::-1]])


def to_last(hall):
    """Tell the hall that comes of all moves on that there are."""
    check_hall(hall)
    # Seen from behind a move on is a move back.
    return seen_from_behind(to_first(seen_from_behind(hall)))


def fewest(hall):
    """Tell the fewest counters at which all work can be, and that many cells no two on one way."""
    check_hall(hall)
    found = [[] for _ in range(len(hall[0]) + 1)]
    for counter in range(len(hall)):
        found = with_counter(found, hall[counter], counter)
    cells = found[0]
    return (len(cells), cells)


def with_counter(found, row, counter):
    """Tell, for each customer and those behind, the most cells apart, with one counter more."""
    told = [[]]
    for customer in reversed(range(len(row))):
        if row[customer] > 0:
            # Nothing is longer: of cells apart only the last may be this counter's
            # or this customer's, and this cell can stand in its place.
            told.append(found[customer + 1] + [(counter, customer)])
        elif len(told[-1]) > len(found[customer]):
            told.append(told[-1])
        else:
            told.append(found[customer])
    return told[::-1]
