"""The refusals: each is a class of its own, straight under HallError."""


class HallError(ValueError):
    """Any refusal."""


class NoHall(HallError):
    """What is handed in as a hall is none."""


class NoDay(HallError):
    """What is handed in as a day is none, or none of this hall."""


class NoCustomer(HallError):
    """No number of a customer of this hall."""


class NoCounter(HallError):
    """No number of a counter of this hall."""


class NoNumber(HallError):
    """No whole number where one is asked for."""


class NoTotals(HallError):
    """No totals, one for each counter."""


class NoMany(HallError):
    """No number of ways that this hall can have apart."""


class NoCustomers(HallError):
    """No number of first customers of this hall."""


class NoTowers(HallError):
    """No tower, or no two towers of one hall."""


class NoRoom(HallError):
    """No number of places to wait."""


class NoMove(HallError):
    """No minute can be moved there."""


class Unlike(HallError):
    """Two things handed in do not fit one another."""


class NoWay(HallError):
    """What is handed in as a way is none."""


class NoRoad(HallError):
    """What is handed in as a road is none."""


class TooMany(HallError):
    """More halls than are listed; many tells how many they are."""

    def __init__(self, many):
        self.many = many


class NoText(HallError):
    """A text that writes nothing."""
