"""What the answers of keepers tell of a record."""

from lotkeepers.bringing import is_sum_of, span
from lotkeepers.circles import is_lot
from lotkeepers.errors import BadAnswers
from lotkeepers.forms import are_bits, is_row, is_told
from lotkeepers.shelves import answer, comes_to, records, refuse_record


def told(shelf, answers):
    refuse_answers(shelf, answers)
    found = all_fitting(shelf, answers)
    if len(found) == 1:
        return ("record", found[0])
    if len(found) > 1:
        return ("open", found[0], found[1])
    return ("torn", torn_sum(shelf, answers))


def shows_told(shelf, answers, value):
    refuse_answers(shelf, answers)
    if is_told(value, "torn", 2):
        return is_torn(shelf, answers, value[1])
    if is_told(value, "record", 2):
        return all_fitting(shelf, answers) == [value[1]]
    found = all_fitting(shelf, answers)
    return is_told(value, "open", 3) and value[1] in found and value[2] in found and value[1] != value[2]


def fitting(shelf, answers):
    """How many records fit."""
    refuse_answers(shelf, answers)
    return len(all_fitting(shelf, answers))


def differ(shelf, answers, record):
    """The lot of the keepers whose answers are not those of the record."""
    refuse_answers(shelf, answers)
    refuse_record(shelf, record)
    return tuple([keeper for keeper, signs in answers if signs != answer(shelf, keeper, record)])


def are_answers(shelf, value):
    if not isinstance(value, tuple) or not all([is_answer(shelf, row) for row in value]):
        return False
    return is_lot(shelf.circle, answered(value))


def is_answer(shelf, value):
    if not is_row(value, 2) or value[0] not in shelf.circle:
        return False
    place = shelf.circle.names.index(value[0])
    return are_bits(value[1], len(shelf.pieces[place]))


def refuse_answers(shelf, value):
    if not are_answers(shelf, value):
        raise BadAnswers(value)


def answered(answers):
    """The keepers that answer."""
    return tuple([keeper for keeper, _ in answers])


def valued(answers):
    """All spots that are answered, each with its value."""
    return [((keeper, number), sign) for keeper, signs in answers for number, sign in enumerate(signs)]


def all_fitting(shelf, answers):
    """All records that give these answers, ascending."""
    rows = records(shelf)
    for keeper, signs in answers:
        rows = [record for record in rows if answer(shelf, keeper, record) == signs]
    return rows


def torn_sum(shelf, answers):
    """A sum that comes to no part, though its values add up to 1, of answers that no record fits."""
    # The value stands in the codes as one more part, so such a sum comes to this part alone.
    high = 1 << len(shelf.parts)
    rows = [(spot, shelf.codes[spot] + (high if sign == "1" else 0)) for spot, sign in valued(answers)]
    return span(rows)[high]


def is_torn(shelf, answers, value):
    if not is_sum_of(shelf, answered(answers), value) or comes_to(shelf, value) != ():
        return False
    ones = [spot for spot, sign in valued(answers) if sign == "1" and spot in value]
    return len(ones) & 1 == 1
