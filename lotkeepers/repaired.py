"""Stores whose keepers lose their pieces, and get them again."""

from lotkeepers.circles import lots, refuse_lot
from lotkeepers.plans import has_plan
from lotkeepers.standing import numbers_left, refuse_number


def after(store, lost):
    """The numbers of the lots all of whose keepers have their pieces, behind a plan if there is one."""
    refuse_lot(store.shelf.circle, lost)
    still_lost = () if has_plan(store.shelf, lost) else lost
    return (numbers_left(store.writes, still_lost), numbers_left(store.asks, still_lost))


def risk(store, number):
    """How many lots of so many keepers there are whose pieces, if lost, the others cannot make anew."""
    refuse_number(store, number)
    return risky(store, number)


def most_lost(store):
    """The greatest number of keepers that may lose their pieces, whichever these are."""
    # Nobody is left to mend all keepers, so the number that is looked for is less than theirs.
    number = 0
    while risky(store, number + 1) == 0:
        number += 1
    return number


def risky(store, number):
    """As risk, of what is known to be a number."""
    shelf = store.shelf
    return len([lot for lot in lots(shelf.circle) if len(lot) == number and not has_plan(shelf, lot)])
