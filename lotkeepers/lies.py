"""Keepers that lie: which lots overrule them, and which records are believed."""

from lotkeepers.answers import differ, refuse_answers
from lotkeepers.bringing import brings_back, lost_record
from lotkeepers.circles import is_lot, is_within, less, lots, refuse_lot
from lotkeepers.errors import BadBound, NeverSure
from lotkeepers.families import least_of
from lotkeepers.forms import is_from_to, is_told
from lotkeepers.shelves import answer, is_record, records

MOST_LIARS = 3


def overruled(shelf, lot, bound):
    """Whether the lot is sure, whoever of it lies."""
    refuse_lot(shelf.circle, lot)
    refuse_bound(bound)
    doubted = first_doubted(shelf, lot, bound)
    if doubted is None:
        return ("sure",)
    return ("open", "0" * len(shelf.parts), lost_record(shelf, less(lot, doubted)), doubted)


def shows_overruled(shelf, lot, bound, value):
    refuse_lot(shelf.circle, lot)
    refuse_bound(bound)
    if is_told(value, "open", 4):
        return is_open(shelf, lot, bound, value[1], value[2], value[3])
    return value == ("sure",) and is_sure(shelf, lot, bound)


def overruling(shelf, bound):
    """The family of the least lots that are sure."""
    refuse_bound(bound)
    family = least_of(shelf.circle, sure_lots(shelf, bound))
    if family == ():
        raise NeverSure(bound)
    return family


def believed(shelf, answers, bound):
    """All records of which at most so many keepers answer otherwise."""
    refuse_answers(shelf, answers)
    refuse_bound(bound)
    return records_within(shelf, answers, bound)


def nearest(shelf, answers):
    """The least number of liars, and the records by which so many lie."""
    refuse_answers(shelf, answers)
    number = min([len(differ(shelf, answers, record)) for record in records(shelf)])
    return (number, records_within(shelf, answers, number))


def refuse_bound(value):
    if not is_from_to(value, 0, MOST_LIARS):
        raise BadBound(value)


def first_doubted(shelf, lot, bound):
    """The first lot of twice so many keepers of the lot without which it does not bring back, None if there is none."""
    many = min(2 * bound, len(lot))
    for row in lots(shelf.circle):
        if len(row) == many and is_within(row, lot) and not brings_back(shelf, less(lot, row)):
            return row
    return None


def is_sure(shelf, lot, bound):
    return first_doubted(shelf, lot, bound) is None


def sure_lots(shelf, bound):
    return [lot for lot in lots(shelf.circle) if is_sure(shelf, lot, bound)]


def is_open(shelf, lot, bound, record, other, doubted):
    """Whether these are as overruled tells them behind "open"."""
    if not is_record(shelf, record) or not is_record(shelf, other) or record == other:
        return False
    if not is_lot(shelf.circle, doubted) or not is_within(doubted, lot) or len(doubted) > 2 * bound:
        return False
    rest = less(lot, doubted)
    return all([answer(shelf, keeper, record) == answer(shelf, keeper, other) for keeper in rest])


def records_within(shelf, answers, number):
    """As believed, of what is known to be right."""
    return tuple([record for record in records(shelf) if len(differ(shelf, answers, record)) <= number])
