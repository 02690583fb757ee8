"""Several keepers that lost their pieces, mended one after the other."""

from lotkeepers.bringing import is_silent
from lotkeepers.circles import is_lot, is_within, less, refuse_lot
from lotkeepers.costs import refuse_prices
from lotkeepers.errors import NoPlan
from lotkeepers.fetching import is_least_fetched, least_fetched
from lotkeepers.forms import is_row, is_told
from lotkeepers.mending import makes
from lotkeepers.shelves import is_record, records


def plan(shelf, lost):
    refuse_lot(shelf.circle, lost)
    rest = shelf.circle.rest(lost)
    mended = can_be_mended(shelf, lost)
    if mended == lost:
        return ("plan", tuple([(keeper, rest) for keeper in lost]))
    gone = [record for record in records(shelf) if is_gone(shelf, lost, mended, record)]
    return ("never", mended, gone[0])


def shows_plan(shelf, lost, value):
    refuse_lot(shelf.circle, lost)
    if is_told(value, "plan", 2):
        return is_plan(shelf, lost, value[1])
    mended = can_be_mended(shelf, lost)
    if not is_told(value, "never", 3) or value[1] != mended or not is_record(shelf, value[2]):
        return False
    return is_gone(shelf, lost, mended, value[2])


def cheapest_plan(shelf, lost, prices):
    """The least price of pieces of those that are not lost by which all lost ones come, and such spots."""
    refuse_cheapest(shelf, lost, prices)
    return least_fetched(shelf, lost, shelf.circle.rest(lost), prices)


def shows_cheapest_plan(shelf, lost, prices, value):
    refuse_cheapest(shelf, lost, prices)
    return is_least_fetched(shelf, lost, shelf.circle.rest(lost), prices, value)


def refuse_cheapest(shelf, lost, prices):
    refuse_lot(shelf.circle, lost)
    refuse_prices(shelf.circle, prices)
    mended = can_be_mended(shelf, lost)
    if mended != lost:
        raise NoPlan(less(lost, mended))


def can_be_mended(shelf, lost):
    """The lot of all lost keepers that can be mended, one after the other."""
    # What is mended is made of pieces that are not lost, so it helps no further.
    rest = shelf.circle.rest(lost)
    return tuple([keeper for keeper in lost if makes(shelf, keeper, rest)])


def has_plan(shelf, lost):
    """Whether all lost keepers can be mended."""
    return can_be_mended(shelf, lost) == lost


def is_gone(shelf, lost, mended, record):
    """Whether some lost keeper that is not mended has a piece with the value 1, and no other keeper has one."""
    others = less(lost, mended)
    return is_silent(shelf, shelf.circle.rest(others), record) and not is_silent(shelf, others, record)


def is_plan(shelf, lost, value):
    """Whether any value tells for each lost keeper, once, helpers that have their pieces when it is mended."""
    if not is_row(value, len(lost)):
        return False
    having = shelf.circle.rest(lost)
    for row in value:
        if not is_row(row, 2) or row[0] not in lost or row[0] in having:
            return False
        if not is_lot(shelf.circle, row[1]) or not is_within(row[1], having) or not makes(shelf, row[0], row[1]):
            return False
        having = having + (row[0],)
    return True
