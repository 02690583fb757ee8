"""Lost pieces, made anew from those of others."""

from lotkeepers.answers import answered, refuse_answers, valued
from lotkeepers.bringing import is_silent, is_sum_of, reach, spots_of
from lotkeepers.circles import is_lot, lots
from lotkeepers.errors import BadAnswers, BadHelpers, BadSum, NoHelp
from lotkeepers.families import least_of
from lotkeepers.forms import is_number_of, is_row, is_told
from lotkeepers.shelves import comes_to, is_record, piece_at, records, refuse_keeper, worth


def mends(shelf, keeper, helpers):
    """Whether the helpers can make all pieces of the keeper anew."""
    refuse_keeper(shelf, keeper)
    refuse_helpers(shelf, keeper, helpers)
    number = first_lost(shelf, keeper, helpers)
    if number is not None:
        hidden = [record for record in records(shelf) if is_hidden(shelf, helpers, (keeper, number), record)]
        return ("lost", number, hidden[0])
    found = reach(shelf, spots_of(shelf, helpers))
    return ("mended", tuple([found[shelf.codes[spot]] for spot in spots_of(shelf, (keeper,))]))


def shows_mends(shelf, keeper, helpers, value):
    refuse_keeper(shelf, keeper)
    refuse_helpers(shelf, keeper, helpers)
    if is_told(value, "mended", 2):
        return are_sums_for(shelf, keeper, helpers, value[1])
    if not is_told(value, "lost", 3) or not is_number_of(value[1], spots_of(shelf, (keeper,))):
        return False
    return is_record(shelf, value[2]) and is_hidden(shelf, helpers, (keeper, value[1]), value[2])


def helping(shelf, keeper):
    """The family of the least lots that can make all pieces of the keeper anew."""
    refuse_keeper(shelf, keeper)
    others = shelf.circle.rest((keeper,))
    refuse_no_help(shelf, keeper, others)
    rows = [lot for lot in lots(shelf.circle) if keeper not in lot]
    return least_of(shelf.circle, [lot for lot in rows if makes(shelf, keeper, lot)])


def made(shelf, keeper, sums, answers):
    """The values of the keeper's pieces, by these sums of what others answer."""
    refuse_keeper(shelf, keeper)
    if not are_sums_for(shelf, keeper, shelf.circle.rest((keeper,)), sums):
        raise BadSum(sums)
    refuse_answers(shelf, answers)
    if not all([spot[0] in answered(answers) for spots in sums for spot in spots]):
        raise BadAnswers(answers)
    ones = [spot for spot, sign in valued(answers) if sign == "1"]
    return "".join(["01"[len([spot for spot in spots if spot in ones]) & 1] for spots in sums])


def refuse_helpers(shelf, keeper, value):
    if not is_lot(shelf.circle, value) or keeper in value:
        raise BadHelpers(value)


def refuse_no_help(shelf, keeper, helpers):
    number = first_lost(shelf, keeper, helpers)
    if number is not None:
        raise NoHelp(number)


def first_lost(shelf, keeper, helpers):
    """The number of the first piece of the keeper that the helpers cannot make anew, None if there is none."""
    found = reach(shelf, spots_of(shelf, helpers))
    for spot in spots_of(shelf, (keeper,)):
        if shelf.codes[spot] not in found:
            return spot[1]
    return None


def makes(shelf, keeper, helpers):
    """As mends, of what is known to be right."""
    return first_lost(shelf, keeper, helpers) is None


def is_hidden(shelf, helpers, spot, record):
    """Whether the piece at this spot has the value 1, and all pieces of the helpers have the value 0."""
    return worth(shelf, piece_at(shelf, spot), record) == "1" and is_silent(shelf, helpers, record)


def are_sums_for(shelf, keeper, helpers, value):
    """Whether this tells for each piece of the keeper a sum of spots of helpers that comes to the same parts."""
    spots = spots_of(shelf, (keeper,))
    if not is_row(value, len(spots)) or not all([is_sum_of(shelf, helpers, row) for row in value]):
        return False
    return all([comes_to(shelf, row) == piece_at(shelf, spot) for row, spot in zip(value, spots)])
