"""What can be left out of a shelf, and shelves by which the same lots bring back."""

from lotkeepers.bringing import brings_back, span, spots_of, tells_all
from lotkeepers.circles import is_lot, lots
from lotkeepers.errors import BadChanges, OtherShelf
from lotkeepers.forms import is_from_to, is_row, is_told
from lotkeepers.shelves import Shelf, odd_parts, piece_code, shelf_text


def spare(shelf):
    """The keepers each of which, by itself, can be left out, and all others bring back."""
    circle = shelf.circle
    return tuple([keeper for keeper in circle.names if brings_back(shelf, circle.rest((keeper,)))])


def spare_pieces(shelf):
    """The spots each of which, by itself, can be left out, and the same lots bring back."""
    backs = [lot for lot in lots(shelf.circle) if brings_back(shelf, lot)]
    return tuple([spot for spot in shelf.spots if is_spare(shelf, backs, spot)])


def same_lots(one, other):
    refuse_other(one, other)
    for lot in lots(one.circle):
        if brings_back(one, lot) != brings_back(other, lot):
            return ("parts", lot, 0 if brings_back(one, lot) else 1)
    return ("same",)


def shows_same_lots(one, other, value):
    refuse_other(one, other)
    if not is_told(value, "parts", 3):
        return value == same_lots(one, other)
    if not is_lot(one.circle, value[1]) or not is_from_to(value[2], 0, 1):
        return False
    backs = (brings_back(one, value[1]), brings_back(other, value[1]))
    return backs == (value[2] == 0, value[2] == 1)


def summed(shelf, changes):
    """The shelf in which each part is exchanged for the sum of parts with its number."""
    if not are_changes(shelf, changes):
        raise BadChanges(changes)
    # Sums that tell all parts leave something of each piece, so the text is one of a shelf.
    pieces = [[changed(shelf, changes, piece) for piece in row] for row in shelf.pieces]
    return Shelf(shelf_text(shelf.parts, shelf.circle.names, pieces))


def is_spare(shelf, backs, spot):
    """Whether all lots that bring back do so without this spot."""
    rows = [[held for held in spots_of(shelf, lot) if held != spot] for lot in backs]
    return all([tells_all(shelf, row) for row in rows])


def refuse_other(one, value):
    if not isinstance(value, Shelf) or value.circle != one.circle:
        raise OtherShelf(value)


def are_changes(shelf, value):
    if not is_row(value, len(shelf.parts)) or not all([is_part_sum(shelf, row) for row in value]):
        return False
    rows = [(row, piece_code(shelf.parts, row)) for row in value]
    return len(span(rows)) == 1 << len(shelf.parts)


def is_part_sum(shelf, value):
    """Whether this is a tuple of parts, in sequence, none twice."""
    return isinstance(value, tuple) and value == tuple([part for part in shelf.parts if part in value])


def is_piece(shelf, value):
    """Whether this is a piece as the shelf tells it."""
    return is_part_sum(shelf, value) and value != ()


def changed(shelf, changes, piece):
    return odd_parts(shelf.parts, [row for part, row in zip(shelf.parts, changes) if part in piece])
