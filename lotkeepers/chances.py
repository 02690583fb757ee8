"""The chance that those who are up have a family."""

from math import gcd

from lotkeepers.errors import BadChance
from lotkeepers.families import many, refuse_family
from lotkeepers.forms import is_from_to, is_row, is_told

MOST_LOW = 99


def chance(circle, family, each):
    """The chance that the lot of those that are up has the family."""
    refuse_family(circle, family)
    if not is_chance(each):
        raise BadChance(each)
    top, low = each
    part = weighed(many(circle, family), top, low)
    # Each lot has the family of nothing, so this is the weight of all lots.
    whole = weighed(many(circle, ((),)), top, low)
    return (part // gcd(part, whole), whole // gcd(part, whole))


def better(circle, one, other):
    """Which family has the greater chance."""
    gains = differences(circle, one, other)
    first = winning(gains)
    second = winning([-gain for gain in gains])
    if first is not None and second is not None:
        return ("hangs", first, second)
    if first is not None:
        return ("one",)
    return ("alike",) if second is None else ("other",)


def shows_better(circle, one, other, value):
    gains = differences(circle, one, other)
    if not is_told(value, "hangs", 3):
        return value == better(circle, one, other)
    if not is_chance(value[1]) or not is_chance(value[2]):
        return False
    return weighed(gains, value[1][0], value[1][1]) > 0 > weighed(gains, value[2][0], value[2][1])


def is_chance(value):
    return is_row(value, 2) and is_from_to(value[1], 1, MOST_LOW) and is_from_to(value[0], 0, value[1])


def weighed(counts, top, low):
    """How much counts[k] lots of k keepers each weigh together.

    A lot weighs top for each keeper that it has, low - top for each that it has not.
    """
    total = 0
    scale = 1
    for count in reversed(counts):
        total = total * top + count * scale
        scale = scale * (low - top)
    return total


def differences(circle, one, other):
    """For each number of keepers, how many more lots have one than have other."""
    refuse_family(circle, one)
    refuse_family(circle, other)
    return [count - less for count, less in zip(many(circle, one), many(circle, other))]


def winning(gains):
    """The first chance by which the gains weigh more than nothing, None if there is none."""
    if max(gains) <= 0:
        return None
    for low in range(1, MOST_LOW + 1):
        for top in range(low + 1):
            if weighed(gains, top, low) > 0:
                return (top, low)
    return None
