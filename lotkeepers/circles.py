"""Circles of keepers, and their lots."""

from lotkeepers.errors import BadLot, BadNames
from lotkeepers.forms import are_names


class Circle:
    """Two to six keepers, in a sequence."""

    def __init__(self, names):
        if not isinstance(names, tuple) or not 2 <= len(names) <= 6 or not are_names(names):
            raise BadNames(names)
        self.names = names

    def __len__(self):
        return len(self.names)

    def __contains__(self, value):
        return value in self.names

    def __eq__(self, other):
        return isinstance(other, Circle) and self.names == other.names

    def lot(self, some):
        """The lot of these keepers, which may stand in any sequence, also twice."""
        if not isinstance(some, tuple) or not all([name in self.names for name in some]):
            raise BadNames(some)
        return tuple([name for name in self.names if name in some])

    def rest(self, lot):
        """The lot of all other keepers."""
        refuse_lot(self, lot)
        return less(self.names, lot)


def lots(circle):
    """All lots, in sequence."""
    codes = range(1 << len(circle))
    rows = [[place for place in range(len(circle)) if code >> place & 1] for code in codes]
    ordered = sorted([(len(row), row) for row in rows])
    return tuple([tuple([circle.names[place] for place in places]) for _, places in ordered])


def both(circle, one, other):
    """The lot of the keepers that are in both lots."""
    refuse_lot(circle, one)
    refuse_lot(circle, other)
    return common(one, other)


def either(circle, one, other):
    """The lot of the keepers that are in one of both lots at least."""
    refuse_lot(circle, one)
    refuse_lot(circle, other)
    return circle.lot(one + other)


def is_lot(circle, value):
    # Taking the keepers out of the circle gives the only tuple that may be right.
    return isinstance(value, tuple) and value == tuple([name for name in circle.names if name in value])


def refuse_lot(circle, value):
    if not is_lot(circle, value):
        raise BadLot(value)


def are_lots(circle, value):
    """Whether this is a tuple of unlike lots, one at least."""
    if not isinstance(value, tuple) or len(value) == 0:
        return False
    return all([is_lot(circle, row) for row in value]) and len(set(value)) == len(value)


def is_within(lot, other):
    return all([name in other for name in lot])


def less(lot, other):
    """The keepers of the lot that are not in the other one."""
    return tuple([name for name in lot if name not in other])


def common(lot, other):
    """As both, of what is known to be lots."""
    return tuple([name for name in lot if name in other])
