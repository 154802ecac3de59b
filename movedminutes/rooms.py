"""Where a move is seen: counters with room for only so many to wait ahead (stage 9)."""

from movedminutes.errors import NoMove, NoRoom
from movedminutes.halls import check_day, check_hall, is_whole
from movedminutes.moves import check_neighbours, move


def check_room(room):
    """Refuse what is no number of places to wait."""
    if not is_whole(room):
        raise NoRoom()


def blocked(hall, day, room):
    """Tell, counter by counter, when each leaves it where so many have room to wait."""
    check_hall(hall)
    check_day(hall, day)
    check_room(room)
    left = [[] for _ in hall]
    for customer in range(len(day)):
        coming = day[customer]
        for counter in range(len(hall)):
            free = time_left(left, counter, customer - 1)
            done = max(coming, free) + hall[counter][customer]
            coming = max(done, time_left(left, counter + 1, customer - room - 1))
            left[counter].append(coming)
    return left


def time_left(left, counter, customer):
    """Tell when a customer leaves a counter, 0 where there is no such one."""
    if counter == len(left) or customer < 0:
        return 0
    return left[counter][customer]


def with_one_gone(hall, counter):
    """Tell the hall in which one minute has gone to the next counter; refuse where none can."""
    told = move(hall, counter)
    if told is None:
        raise NoMove()
    return told


def is_told_apart(hall, other, day, room):
    """Tell whether somebody leaves the last counter of one hall otherwise than that of the other."""
    return blocked(hall, day, room)[-1] != blocked(other, day, room)[-1]


def is_seen(hall, counter, day, room):
    """Tell whether somebody leaves the last counter otherwise when one minute is moved."""
    check_neighbours(hall, counter)
    check_day(hall, day)
    check_room(room)
    return is_told_apart(hall, with_one_gone(hall, counter), day, room)


def seen_day(hall, counter, room):
    """Tell the least day, of noughts and of one late time, on which a move is seen; None where none is."""
    check_neighbours(hall, counter)
    check_room(room)
    other = with_one_gone(hall, counter)
    late = sum([sum(row) for row in hall]) + 1
    customers = len(hall[0])
    for many_late in range(customers + 1):
        day = [0] * (customers - many_late) + [late] * many_late
        if is_told_apart(hall, other, day, room):
            return day
    return None
