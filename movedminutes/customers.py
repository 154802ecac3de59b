"""Minutes moved between customers, as between counters of the hall turned about (stage 8)."""

from movedminutes.errors import NoCustomer
from movedminutes.halls import check_customer, check_hall
from movedminutes.moves import back, move
from movedminutes.sums import exchanged


def check_neighbour_customers(hall, customer):
    """Refuse what is no hall, and what is no number of a customer with one behind."""
    check_hall(hall)
    check_customer(hall, customer)
    if customer + 1 == len(hall[0]):
        raise NoCustomer()


def turned_about(hall):
    """Tell the hall with counters and customers exchanged."""
    check_hall(hall)
    return tuple(zip(*hall))


def turned_if_any(told):
    """Tell the hall turned about; None of none."""
    return None if told is None else turned_about(told)


def customer_move(hall, customer):
    """Tell the hall in which one minute has gone from a customer to the next; None where none can."""
    check_neighbour_customers(hall, customer)
    return turned_if_any(move(turned_about(hall), customer))


def customer_back(hall, customer):
    """Tell the hall in which one minute has come back from the next customer; None where none can."""
    check_neighbour_customers(hall, customer)
    return turned_if_any(back(turned_about(hall), customer))


def exchanged_customers(hall, customer):
    """Tell the hall led to between two neighbouring customers where their sums have changed places."""
    check_neighbour_customers(hall, customer)
    return turned_about(exchanged(turned_about(hall), customer))
