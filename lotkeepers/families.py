"""Families of lots, none of which is within another one."""

from lotkeepers.circles import are_lots, is_lot, is_within, lots, refuse_lot
from lotkeepers.errors import BadFamily, BadLots
from lotkeepers.forms import is_number_of, is_row, is_told


def least(circle, some):
    """The family of those of some lots that have no other one of them within."""
    if not are_lots(circle, some):
        raise BadLots(some)
    return least_of(circle, some)


def has(circle, family, lot):
    refuse_family(circle, family)
    refuse_lot(circle, lot)
    number = first_within(family, lot)
    if number is not None:
        return ("has", number)
    return ("lacks", tuple([[name for name in row if name not in lot][0] for row in family]))


def shows_has(circle, family, lot, value):
    refuse_family(circle, family)
    refuse_lot(circle, lot)
    if is_told(value, "has", 2):
        return is_number_within(family, lot, value[1])
    if not is_told(value, "lacks", 2) or not is_row(value[1], len(family)):
        return False
    return all([name in row and name not in lot for name, row in zip(value[1], family)])


def within(circle, one, other):
    """Whether each lot that has one has other."""
    refuse_family(circle, one)
    refuse_family(circle, other)
    numbers = [first_within(other, lot) for lot in one]
    # If a lot has one, and not other, then some lot of one is such a lot itself.
    for lot, number in zip(one, numbers):
        if number is None:
            return ("parts", lot)
    return ("within", tuple(numbers))


def shows_within(circle, one, other, value):
    refuse_family(circle, one)
    refuse_family(circle, other)
    if is_told(value, "parts", 2):
        return is_lot(circle, value[1]) and has_one(one, value[1]) and not has_one(other, value[1])
    if not is_told(value, "within", 2) or not is_row(value[1], len(one)):
        return False
    return all([is_number_within(other, lot, number) for lot, number in zip(one, value[1])])


def joined(circle, one, other):
    """The family that the lots have that have one of both at least."""
    refuse_family(circle, one)
    refuse_family(circle, other)
    return least_of(circle, one + other)


def shared(circle, one, other):
    """The family that the lots have that have both."""
    refuse_family(circle, one)
    refuse_family(circle, other)
    return least_with_both(circle, one, other)


def many(circle, family):
    """For each number of keepers, how many lots of so many have the family."""
    refuse_family(circle, family)
    sizes = [len(lot) for lot in lots(circle) if has_one(family, lot)]
    return tuple([sizes.count(size) for size in range(len(circle) + 1)])


def least_of(circle, some):
    """As least, of what is known to be lots; some may be alike, or none."""
    kept = []
    # A lot comes behind all that are within it, so these are kept already.
    for lot in lots(circle):
        if lot in some and not has_one(kept, lot):
            kept.append(lot)
    return tuple(kept)


def least_with_both(circle, one, other):
    """The least lots that have one of these and one of those lots within."""
    return least_of(circle, [circle.lot(lot + row) for lot in one for row in other])


def is_family(circle, value):
    return are_lots(circle, value) and value == least_of(circle, value)


def refuse_family(circle, value):
    if not is_family(circle, value):
        raise BadFamily(value)


def first_within(some, lot):
    """The number of the first one of some lots that is within the lot, None if there is none."""
    for number, row in enumerate(some):
        if is_within(row, lot):
            return number
    return None


def has_one(some, lot):
    """Whether one of some lots is within the lot."""
    return first_within(some, lot) is not None


def is_number_within(some, lot, value):
    """Whether this is the number of one of some lots that is within the lot."""
    return is_number_of(value, some) and is_within(some[value], lot)
