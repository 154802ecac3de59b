"""Moves of minutes from a counter to the next, and back (stage 3)."""

from movedminutes.errors import NoNumber
from movedminutes.halls import check_counter, check_hall


def check_neighbours(hall, counter):
    """Refuse what is no hall, and what is no number of a counter that has a next one."""
    check_hall(hall)
    # The last counter is the first one of no two neighbours.
    check_counter(hall[:-1], counter)


def leads(row, next_row):
    """Tell the lead of each customer, by what all need at a counter and at the next."""
    lead = 0
    told = []
    for minutes, next_minutes in zip(row, next_row):
        lead += minutes
        told.append(lead)
        lead -= next_minutes
    return told


def most_moves(row, next_row):
    """Tell how often a minute can be moved from a counter to the next, and how often back."""
    on = max(leads(row, next_row))
    return (on, on + sum(next_row) - sum(row))


def going_on(row, next_row, many):
    """Tell how many minutes of each customer go on in so many moves, which can surely be done."""
    told = leads(row, next_row)
    # Each move lowers the first of the greatest leads by one, until it is as
    # great as one ahead of it, which then is the first. So each customer gives
    # what their lead is above all ahead, and above what is left of the greatest.
    reached = max(told) - many
    minutes = []
    for lead in told:
        minutes.append(max(lead - reached, 0))
        reached = max(reached, lead)
    return minutes


def going_back(row, next_row, many):
    """Tell how many minutes of each customer come back in so many moves, which can surely be done."""
    # Seen from behind, counters and customers, a move back is a move on.
    return going_on(next_row[::-1], row[::-1], many)[::-1]


def carried(hall, counter, many):
    """Tell the hall behind so many moves (below 0: back), which can surely be done."""
    row = hall[counter]
    next_row = hall[counter + 1]
    if many >= 0:
        gone = going_on(row, next_row, many)
    else:
        gone = [-minutes for minutes in going_back(row, next_row, -many)]
    left = tuple([minutes - moving for minutes, moving in zip(row, gone)])
    next_left = tuple([minutes + moving for minutes, moving in zip(next_row, gone)])
    return hall[:counter] + (left, next_left) + hall[counter + 2:]


def move(hall, counter):
    """Tell the hall in which one minute has gone from a counter to the next; None where none can."""
    return moved(hall, counter, 1)


def back(hall, counter):
    """Tell the hall in which one minute has come back from the next counter; None where none can."""
    return moved(hall, counter, -1)


def can_move(hall, counter):
    """Tell how often a minute can be moved from a counter to the next, and how often back."""
    check_neighbours(hall, counter)
    return most_moves(hall[counter], hall[counter + 1])


def moved(hall, counter, many):
    """Tell the hall behind so many moves (below 0: back); None where they can't all be done."""
    check_neighbours(hall, counter)
    if type(many) is not int:
        raise NoNumber()
    most_on, most_back = most_moves(hall[counter], hall[counter + 1])
    if many > most_on or -many > most_back:
        return None
    return carried(hall, counter, many)
