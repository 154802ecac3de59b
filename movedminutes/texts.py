"""Writing: texts of halls, days, ways, towers and roads, and what they write (stage 10)."""

from movedminutes.errors import NoDay, NoRoad, NoText, NoTowers, NoWay
from movedminutes.halls import MOST, check_hall, is_day, is_hall, is_short_tuple, is_whole
from movedminutes.towers import is_short_list, is_tower

FIGURES = "0123456789"


def is_some_day(thing):
    """Tell whether anything is a day of some hall."""
    # Whatever hall has it for a day, it is one of a hall of noughts at one counter.
    return is_short_list(thing) and is_day(((0,) * len(thing),), thing)


def is_cell(thing):
    """Tell whether anything is a tuple (counter, customer) of some hall."""
    if type(thing) is not tuple or len(thing) != 2:
        return False
    return all(is_whole(number) and number < MOST for number in thing)


def is_way(thing):
    """Tell whether anything is a way of some hall."""
    if type(thing) is not list or not all(is_cell(cell) for cell in thing):
        return False
    if len(thing) == 0 or thing[0][0] != 0:
        return False
    return all(is_step(thing[s - 1], thing[s]) for s in range(1, len(thing)))


def is_step(cell, next_cell):
    """Tell whether a way can go from one cell straight to the other."""
    counter, customer = cell
    return next_cell == (counter, customer + 1) or next_cell == (counter + 1, customer)


def is_some_tower(thing):
    """Tell whether anything is a tower of some hall."""
    # The last row tells how long rows get, whatever the other tower is.
    if not is_short_list(thing) or not is_short_tuple(thing[-1]):
        return False
    return is_tower(thing, len(thing[-1]))


def is_road_part(thing):
    """Tell whether anything is a tuple (counter, many) of some road."""
    if type(thing) is not tuple or len(thing) != 2:
        return False
    counter, many = thing
    # The last counter has no next one to move to.
    return is_whole(counter) and counter < MOST - 1 and type(many) is int and many != 0


def is_road(thing):
    """Tell whether anything is a road between some halls."""
    return type(thing) is list and all(is_road_part(part) for part in thing)


def show_number(number):
    """Write a whole number, below 0 with its sign ahead."""
    if number < 0:
        return "-" + show_number(-number)
    told = ""
    # Python by itself writes only numbers of some thousands of figures.
    while number >= 10 ** 64:
        number, part = divmod(number, 10 ** 64)
        told = str(part).zfill(64) + told
    return str(number) + told


def read_number(word):
    """Tell the whole number from 0 on that a word writes."""
    if word == "" or not all(figure in FIGURES for figure in word):
        raise NoText()
    if word.startswith("0") and word != "0":
        raise NoText()
    number = 0
    # Python by itself reads only numbers of some thousands of figures.
    for figure in word:
        number = number * 10 + int(figure)
    return number


def read_number_or_below(word):
    """Tell the whole number, from 0 on or below, that a word writes."""
    if word.startswith("-"):
        return -read_number(word[1:])
    return read_number(word)


def show_numbers(numbers):
    """Write numbers with blanks between."""
    return " ".join([show_number(number) for number in numbers])


def read_numbers(text):
    """Tell the list of numbers that a text writes, with blanks between."""
    return [read_number(word) for word in text.split(" ")]


def check_text(text):
    """Refuse what is no text."""
    if type(text) is not str:
        raise NoText()


def show_hall(hall):
    """Write a hall."""
    check_hall(hall)
    return "/".join([show_numbers(row) for row in hall])


def read_hall(text):
    """Tell the hall that a text writes."""
    check_text(text)
    hall = tuple([tuple(read_numbers(row)) for row in text.split("/")])
    if not is_hall(hall):
        raise NoText()
    return hall


def show_day(day):
    """Write a day."""
    if not is_some_day(day):
        raise NoDay()
    return show_numbers(day)


def read_day(text):
    """Tell the day that a text writes."""
    check_text(text)
    day = read_numbers(text)
    if not is_some_day(day):
        raise NoText()
    return day


def show_way(way):
    """Write a way."""
    if not is_way(way):
        raise NoWay()
    return "-".join([f"{counter}.{customer}" for counter, customer in way])


def read_way(text):
    """Tell the way that a text writes."""
    check_text(text)
    way = []
    for word in text.split("-"):
        counter, _, customer = word.partition(".")
        way.append((read_number(counter), read_number(customer)))
    if not is_way(way):
        raise NoText()
    return way


def show_tower(tower):
    """Write a tower."""
    if not is_some_tower(tower):
        raise NoTowers()
    return "|".join([show_numbers(row) for row in tower])


def read_tower(text):
    """Tell the tower that a text writes."""
    check_text(text)
    tower = [tuple(read_numbers(row)) for row in text.split("|")]
    if not is_some_tower(tower):
        raise NoText()
    return tower


def show_road(road):
    """Write a road."""
    if not is_road(road):
        raise NoRoad()
    return " ".join([f"{counter}:{show_number(many)}" for counter, many in road])


def read_road(text):
    """Tell the road that a text writes."""
    check_text(text)
    if text == "":
        return []
    road = []
    for word in text.split(" "):
        counter, _, many = word.partition(":")
        road.append((read_number(counter), read_number_or_below(many)))
    if not is_road(road):
        raise NoText()
    return road
