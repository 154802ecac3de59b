"""Halls, days, and when each customer leaves each counter (stage 1)."""

from movedminutes.errors import NoCounter, NoCustomer, NoDay, NoHall

MOST = 8


def is_whole(thing):
    """Tell whether anything is a whole number from 0 on."""
    # type, not isinstance: True is an int there, and a thing of another kind
    # may claim to be one.
    return type(thing) is int and thing >= 0


def is_short_tuple(thing):
    """Tell whether anything is a tuple of one to eight things."""
    return type(thing) is tuple and 1 <= len(thing) <= MOST


def is_row(thing):
    """Tell whether anything is what some customers need at one counter."""
    return is_short_tuple(thing) and all(is_whole(minutes) for minutes in thing)


def is_hall(thing):
    """Tell whether anything is a hall: rows of minutes, as many in each."""
    if not is_short_tuple(thing) or not all(is_row(row) for row in thing):
        return False
    return all(len(row) == len(thing[0]) for row in thing)


def is_day(hall, thing):
    """Tell whether anything is a day of this hall."""
    if type(thing) is not list or len(thing) != len(hall[0]):
        return False
    if not all(is_whole(time) for time in thing):
        return False
    return all(thing[k - 1] <= thing[k] for k in range(1, len(thing)))


def check_hall(hall):
    """Refuse what is no hall."""
    if not is_hall(hall):
        raise NoHall()


def check_day(hall, day):
    """Refuse what is no day of this hall."""
    if not is_day(hall, day):
        raise NoDay()


def check_counter(hall, counter):
    """Refuse what is no number of a counter of this hall."""
    if not is_whole(counter) or counter >= len(hall):
        raise NoCounter()


def check_customer(hall, customer):
    """Refuse what is no number of a customer of this hall."""
    if not is_whole(customer) or customer >= len(hall[0]):
        raise NoCustomer()


def served(row, coming):
    """Tell when each leaves one counter, who come to it at these times."""
    free = 0
    left = []
    for minutes, came in zip(row, coming):
        free = max(free, came) + minutes
        left.append(free)
    return left


def gone_through(hall, day):
    """Tell, counter by counter, when each leaves it, of what is surely a hall and its day."""
    left = []
    coming = day
    for row in hall:
        coming = served(row, coming)
        left.append(coming)
    return left


def leavings(hall, day):
    """Tell, counter by counter, the times at which each customer leaves it."""
    check_hall(hall)
    check_day(hall, day)
    return gone_through(hall, day)


def last(hall, day):
    """Tell the times at which each customer leaves the last counter."""
    return leavings(hall, day)[-1]


def waits(hall, day):
    """Tell, counter by counter, how long each customer waits ahead of it."""
    left = leavings(hall, day)
    came = [day] + left[:-1]
    return [waits_at(hall[i], came[i], left[i]) for i in range(len(hall))]


def waits_at(row, coming, leaving):
    """Tell how long each waits ahead of one counter."""
    return [left - minutes - came for minutes, came, left in zip(row, coming, leaving)]


def held_by(hall, day, customer):
    """Tell the cells that hold a customer up, each begun just as the one ahead ends."""
    check_hall(hall)
    check_day(hall, day)
    check_customer(hall, customer)
    left = gone_through(hall, day)
    cell = (len(hall) - 1, customer)
    chain = []
    while cell is not None:
        chain.append(cell)
        cell = cell_ahead(left, day, cell)
    return chain[::-1]


def cell_ahead(left, day, cell):
    """Tell the cell at whose end this one begins; None where it begins as its customer comes in."""
    counter, customer = cell
    if counter == 0:
        if customer == 0 or left[0][customer - 1] <= day[customer]:
            return None
        return (0, customer - 1)
    # Where both end at once the customer ahead is told.
    if customer > 0 and left[counter][customer - 1] >= left[counter - 1][customer]:
        return (counter, customer - 1)
    return (counter - 1, customer)
