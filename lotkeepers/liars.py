"""Who lied, and who is to be asked besides."""

from lotkeepers.answers import answered, differ
from lotkeepers.circles import less
from lotkeepers.errors import Unbelieved
from lotkeepers.forms import all_bits
from lotkeepers.lies import believed, records_within


def liars(shelf, answers, bound):
    """The keepers that lied by all records that are believed, by none, and by some."""
    rows = [differ(shelf, answers, record) for record in believed_records(shelf, answers, bound)]
    keepers = answered(answers)
    lied = tuple([keeper for keeper in keepers if all([keeper in row for row in rows])])
    true = tuple([keeper for keeper in keepers if not any([keeper in row for row in rows])])
    return (lied, true, less(less(keepers, lied), true))


def asked_more(shelf, answers, bound):
    """The keepers each of whom leaves fewer records believed, whatever it tells."""
    many = len(believed_records(shelf, answers, bound))
    others = less(shelf.circle.names, answered(answers))
    return tuple(sorted([keeper for keeper in others if most_left(shelf, answers, bound, keeper) < many]))


def believed_records(shelf, answers, bound):
    found = believed(shelf, answers, bound)
    if found == ():
        raise Unbelieved(bound)
    return found


def most_left(shelf, answers, bound, keeper):
    """How many records are believed at the most behind an answer of this keeper."""
    place = shelf.circle.names.index(keeper)
    grown = [with_answer(shelf, answers, keeper, signs) for signs in all_bits(len(shelf.pieces[place]))]
    return max([len(records_within(shelf, row, bound)) for row in grown])


def with_answer(shelf, answers, keeper, signs):
    """The answers with one more, in the sequence of the keepers."""
    held = {name: told for name, told in answers}
    held[keeper] = signs
    return tuple([(name, held[name]) for name in shelf.circle.names if name in held])
