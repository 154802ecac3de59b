"""Ways apart: what so many ways cover, and what it tells of two halls (stage 6)."""

from movedminutes.errors import NoCustomers, NoMany
from movedminutes.halls import check_hall, is_whole
from movedminutes.sums import to_last
from movedminutes.ways import check_like


def check_bounds(hall, many, customers):
    """Refuse what is no hall, or no number of ways or of first customers of it."""
    check_hall(hall)
    if not is_whole(many) or many > min(len(hall), len(hall[0])):
        raise NoMany()
    if not is_whole(customers) or customers > len(hall[0]):
        raise NoCustomers()


def covered_behind(gone_on, many, customers):
    """Tell what so many ways cover of the first customers, of a hall where no move on can be done."""
    # No move changes it, and where none can be done any more the ways cover
    # the most along the last counters, whichever of the first customers are asked for.
    return sum([sum(row[:customers]) for row in gone_on[len(gone_on) - many:]])


def covered(hall, many, customers):
    """Tell the greatest sum of the cells on so many ways among the first so many customers."""
    check_bounds(hall, many, customers)
    return covered_behind(to_last(hall), many, customers)


def not_led(hall, other):
    """Tell the least numbers of ways and customers whose covers differ; None where none do."""
    check_like(hall, other)
    gone_on = to_last(hall)
    other_gone_on = to_last(other)
    for many in range(1, min(len(hall), len(hall[0])) + 1):
        for customers in range(1, len(hall[0]) + 1):
            if covered_behind(gone_on, many, customers) != covered_behind(other_gone_on, many, customers):
                return (many, customers)
    return None


def cover(hall, many, customers):
    """Tell a list of so many ways among the first so many customers that cover the most."""
    check_bounds(hall, many, customers)
    if customers == 0:
        return []
    gains = all_gains(hall, customers)
    counts = {passage: 0 for passage in gains}
    end = (len(hall) - 1, customers - 1)
    for _ in range(many):
        add_way(gains, counts, end)
    return [taken_way(counts, end) for _ in range(many)]


def way_in(cell):
    """Name the place at which ways come to a cell."""
    return (cell, 0)


def way_out(cell):
    """Name the place at which ways leave a cell."""
    return (cell, 1)


def all_gains(hall, customers):
    """Tell, for each passage from place to place, what the first way through it gains."""
    gains = {}
    for counter in range(len(hall)):
        for customer in range(customers):
            cell = (counter, customer)
            gains[(way_in(cell), way_out(cell))] = hall[counter][customer]
            if customer + 1 < customers:
                gains[(way_out(cell), way_in((counter, customer + 1)))] = 0
            if counter + 1 < len(hall):
                gains[(way_out(cell), way_in((counter + 1, customer)))] = 0
    return gains


def add_way(gains, counts, end):
    """Count one way more, and turn the others aside where all together gain the most by it."""
    steps = best_steps(open_steps(gains, counts))
    place = way_out(end)
    while place != way_in((0, 0)):
        before, passage, by = steps[place]
        counts[passage] += by
        place = before


def open_steps(gains, counts):
    """Tell the steps one way more may take: (from, to, gain, passage, ways more through it)."""
    steps = []
    for passage in gains:
        before, behind = passage
        # Only the first way through a cell gains its minutes, so a further one
        # gains none, and only the last one that is turned aside loses them.
        steps.append((before, behind, gains[passage] if counts[passage] == 0 else 0, passage, 1))
        if counts[passage] > 0:
            steps.append((behind, before, -gains[passage] if counts[passage] == 1 else 0, passage, -1))
    return steps


def best_steps(steps):
    """Tell, for each place, the last step to it of what gains the most: (from, passage, ways more)."""
    gained = {way_in((0, 0)): 0}
    came = {}
    changed = True
    # The ways counted gain the most, so no ring of steps gains anything, and this
    # comes to an end behind at most as many turns as there are places.
    while changed:
        changed = False
        for before, behind, gain, passage, by in steps:
            if before not in gained:
                continue
            total = gained[before] + gain
            if behind not in gained or gained[behind] < total:
                gained[behind] = total
                came[behind] = (before, passage, by)
                changed = True
    return came


def taken_way(counts, end):
    """Take one of the ways out of those counted, and tell it."""
    way = [(0, 0)]
    while way[-1] != end:
        counter, customer = way[-1]
        cell = (counter, customer + 1)
        if counts.get((way_out(way[-1]), way_in(cell)), 0) == 0:
            cell = (counter + 1, customer)
        counts[(way_out(way[-1]), way_in(cell))] -= 1
        way.append(cell)
    return way
