"""Ways through a hall, their worth, and what they tell apart (stage 2)."""

from movedminutes.errors import NoCustomer, Unlike
from movedminutes.halls import check_counter, check_customer, check_hall, gone_through


def worths_from(hall, counter, customer):
    """Tell, row by row, the greatest worth of a way from this cell to each one at or behind it."""
    # Where all come at once, each leaves a counter when the worthiest way
    # there ends, so a day of noughts of the hall behind the cell tells them.
    part = tuple(row[customer:] for row in hall[counter:])
    return gone_through(part, [0] * len(part[0]))


def worths_to(hall, last_one):
    """Tell, row by row, the greatest worth from each cell to a customer at the last counter."""
    # A way read from its end is a way of the hall seen from behind.
    turned = tuple(row[last_one::-1] for row in hall[::-1])
    return [row[::-1] for row in worths_from(turned, 0, 0)[::-1]]


def all_greatest(hall):
    """Tell, for each first customer, the greatest worths to each last one from there on."""
    return [worths_from(hall, 0, first)[-1] for first in range(len(hall[0]))]


def check_ends(hall, first, last_one):
    """Refuse what is no hall with a way from the first customer to the last one."""
    check_hall(hall)
    check_customer(hall, first)
    check_customer(hall, last_one)
    if first > last_one:
        raise NoCustomer()


def check_both(hall, other):
    """Refuse what are no two halls of as many customers."""
    check_hall(hall)
    check_hall(other)
    if len(hall[0]) != len(other[0]):
        raise Unlike()


def check_like(hall, other):
    """Refuse what are no two halls of as many customers and counters."""
    check_both(hall, other)
    if len(hall) != len(other):
        raise Unlike()


def greatest(hall, first, last_one):
    """Tell the greatest worth of a way from one customer to another."""
    check_ends(hall, first, last_one)
    return worths_from(hall, 0, first)[-1][last_one - first]


def best_way(hall, first, last_one):
    """Tell the least way, as lists, of the greatest worth from one customer to another."""
    check_ends(hall, first, last_one)
    worths = worths_to(hall, last_one)
    cell = (0, first)
    way = [cell]
    while cell != (len(hall) - 1, last_one):
        cell = next_cell(worths, cell)
        way.append(cell)
    return way


def next_cell(worths, cell):
    """Tell the cell to which the least of the best ways to the end steps from this one."""
    counter, customer = cell
    if customer + 1 == len(worths[0]):
        return (counter + 1, customer)
    if counter + 1 == len(worths):
        return (counter, customer + 1)
    # Of two ways of like worth the one that stays at the counter is less.
    if worths[counter][customer + 1] >= worths[counter + 1][customer]:
        return (counter, customer + 1)
    return (counter + 1, customer)


def alike(hall, other):
    """Tell whether on every day each leaves the last counter of both halls at one time."""
    check_both(hall, other)
    return all_greatest(hall) == all_greatest(other)


def parting(hall, other):
    """Tell a day and who leaves the two halls otherwise on it; None where they are alike."""
    check_both(hall, other)
    worths = all_greatest(hall)
    others = all_greatest(other)
    for first in range(len(worths)):
        for k in range(first, len(worths)):
            if worths[first][k - first] != others[first][k - first]:
                return (parting_day(hall, other, first), k)
    return None


def parting_day(hall, other, first):
    """Tell the day on which all from the first customer on come behind all the work there is."""
    late = sum(sum(row) for row in hall) + sum(sum(row) for row in other)
    return [0] * first + [late] * (len(hall[0]) - first)


def spare(hall, counter, customer):
    """Tell how many minutes more fit into a cell, all coming at once, and nobody leaves later."""
    check_hall(hall)
    check_counter(hall, counter)
    check_customer(hall, customer)
    worths = worths_from(hall, 0, 0)
    ahead = worths[counter][customer] - hall[counter][customer]
    behind = worths_from(hall, counter, customer)[-1]
    most = worths[-1][customer:]
    return min([most[k] - ahead - behind[k] for k in range(len(behind))])
