"""Lots that meet all lots of a family."""

from lotkeepers.circles import is_lot, lots
from lotkeepers.errors import Unmet
from lotkeepers.families import least_of, refuse_family
from lotkeepers.forms import is_integer, is_number_of, is_row, is_told


def dual(circle, family):
    """The family of the least lots that meet each lot of the family."""
    refuse_unmet(circle, family)
    return least_of(circle, [lot for lot in lots(circle) if meets_all(lot, family)])


def meet(circle, one, other):
    """Whether each lot of one meets each lot of other."""
    refuse_family(circle, one)
    refuse_family(circle, other)
    for number, lot in enumerate(one):
        for place, row in enumerate(other):
            if not meets(lot, row):
                return ("apart", number, place)
    return ("meet",)


def shows_meet(circle, one, other, value):
    refuse_family(circle, one)
    refuse_family(circle, other)
    if value == ("meet",):
        return all([meets_all(lot, other) for lot in one])
    if not is_told(value, "apart", 3):
        return False
    if not is_number_of(value[1], one) or not is_number_of(value[2], other):
        return False
    return not meets(one[value[1]], other[value[2]])


def most_falls(circle, family):
    """How many keepers may fall, and one keeper more that may not."""
    # Some lot is left whole exactly if those that fall do not meet all lots.
    lot = dual(circle, family)[0]
    return (len(lot) - 1, lot)


def shows_most_falls(circle, family, value):
    number, _ = most_falls(circle, family)
    if not is_row(value, 2) or not is_integer(value[0]) or value[0] != number:
        return False
    return is_lot(circle, value[1]) and len(value[1]) == number + 1 and meets_all(value[1], family)


def refuse_unmet(circle, family):
    refuse_family(circle, family)
    if family == ((),):
        raise Unmet(family)


def meets(lot, other):
    return any([name in other for name in lot])


def meets_all(lot, some):
    return all([meets(lot, row) for row in some])
