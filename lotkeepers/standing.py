"""How many falls a store stands."""

from lotkeepers.circles import is_lot, lots, refuse_lot
from lotkeepers.duals import meets
from lotkeepers.errors import BadNumber
from lotkeepers.forms import is_from_to, is_told


def stands(store, number):
    refuse_number(store, number)
    lot = first_stop(store, number)
    return ("stands",) if lot is None else ("falls", lot)


def shows_stands(store, number, value):
    refuse_number(store, number)
    if not is_told(value, "falls", 2):
        return value == ("stands",) and first_stop(store, number) is None
    return is_lot(store.shelf.circle, value[1]) and len(value[1]) == number and is_stop(store, value[1])


def most_stood(store):
    """The greatest number of falls that the store stands."""
    # More falls leave no lots that fewer do not: behind the first number it stands no other one.
    number = 0
    while first_stop(store, number + 1) is None:
        number += 1
    return number


def left(store, lot):
    """The numbers of the lots that are left if these keepers fall."""
    refuse_lot(store.shelf.circle, lot)
    return (numbers_left(store.writes, lot), numbers_left(store.asks, lot))


def refuse_number(store, value):
    if not is_from_to(value, 0, len(store.shelf.circle)):
        raise BadNumber(value)


def numbers_left(some, lot):
    return tuple([number for number, row in enumerate(some) if not meets(row, lot)])


def is_stop(store, lot):
    """Whether these falls leave no writing lot, or no reading lot."""
    return numbers_left(store.writes, lot) == () or numbers_left(store.asks, lot) == ()


def first_stop(store, number):
    """The first lot of so many keepers whose fall is a stop, None if there is none."""
    for lot in lots(store.shelf.circle):
        if len(lot) == number and is_stop(store, lot):
            return lot
    return None
