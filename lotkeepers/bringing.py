"""Which lots bring a record back, and by what sums."""

from lotkeepers.circles import common, lots, refuse_lot
from lotkeepers.errors import NeverBack
from lotkeepers.families import least_of
from lotkeepers.forms import is_row, is_told
from lotkeepers.shelves import answer, comes_to, is_record, is_sum, records


def brings(shelf, lot):
    refuse_lot(shelf.circle, lot)
    found = reach(shelf, spots_of(shelf, lot))
    codes = [1 << place for place in range(len(shelf.parts))]
    if all([code in found for code in codes]):
        return ("back", tuple([found[code] for code in codes]))
    return ("lost", lost_record(shelf, lot))


def shows_brings(shelf, lot, value):
    refuse_lot(shelf.circle, lot)
    if is_told(value, "lost", 2):
        return is_record(shelf, value[1]) and is_lost(shelf, lot, value[1])
    if not is_told(value, "back", 2) or not is_row(value[1], len(shelf.parts)):
        return False
    if not all([is_sum_of(shelf, lot, spots) for spots in value[1]]):
        return False
    return all([comes_to(shelf, spots) == (part,) for part, spots in zip(shelf.parts, value[1])])


def unlike(shelf, lot):
    """How many unlike answers the lot gives, over all records."""
    refuse_lot(shelf.circle, lot)
    # Each piece that is no sum of others doubles both the sums and the unlike answers.
    return len(reach(shelf, spots_of(shelf, lot)))


def bringing(shelf):
    """The family of the least lots that bring back."""
    family = least_backs(shelf)
    if family == ():
        raise NeverBack(lost_record(shelf, shelf.circle.names))
    return family


def spots_of(shelf, lot):
    """All spots of the keepers of the lot."""
    return tuple([spot for spot in shelf.spots if spot[0] in lot])


def span(rows):
    """All codes to which sums of spots come, each with one such sum.

    Each row is a spot and its code, an integer whose bits are added without carry.
    """
    found = {0: ()}
    for spot, code in rows:
        # A code that is there already brings no new ones: it is a sum of those ahead.
        if code not in found:
            for old in list(found):
                found[old ^ code] = found[old] + (spot,)
    return found


def reach(shelf, spots):
    """All sums of parts to which sums of these spots come, as codes, each with one such sum."""
    return span([(spot, shelf.codes[spot]) for spot in spots])


def tells_all(shelf, spots):
    """Whether the pieces at these spots tell each record from each other one."""
    return len(reach(shelf, spots)) == 1 << len(shelf.parts)


def brings_back(shelf, lot):
    """As brings, of what is known to be a lot."""
    return tells_all(shelf, spots_of(shelf, lot))


def least_backs(shelf):
    """The least lots that bring back, in sequence; none if not even all keepers do."""
    return least_of(shelf.circle, [lot for lot in lots(shelf.circle) if brings_back(shelf, lot)])


def greatest_back(shelf, held, lot):
    """The greatest stamp that the lot brings back by those who have it, 0 if there is none.

    held tells for each stamp, from 1 on, the lot of those who have its pieces.
    """
    return max([0] + [number + 1 for number, row in enumerate(held) if brings_back(shelf, common(lot, row))])


def is_silent(shelf, lot, record):
    """Whether all pieces of the lot have the value 0 on this record."""
    return "1" not in "".join([answer(shelf, keeper, record) for keeper in lot])


def is_lost(shelf, lot, record):
    """Whether the record is not of noughts alone, and the lot tells nothing of it."""
    return "1" in record and is_silent(shelf, lot, record)


def lost_record(shelf, lot):
    """A record that is lost to a lot that does not bring back."""
    return [record for record in records(shelf) if is_lost(shelf, lot, record)][0]


def is_sum_of(shelf, lot, value):
    """Whether this is a sum of spots of keepers of the lot."""
    return is_sum(shelf, value) and all([spot[0] in lot for spot in value])
