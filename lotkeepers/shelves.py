"""Shelves: the parts of a record, and the pieces that each keeper has."""

from lotkeepers.circles import Circle
from lotkeepers.errors import BadRecord, BadShelf, BadSum, NoKeeper
from lotkeepers.forms import all_bits, are_bits, are_names, is_integer, is_name, is_row, wrong_line

MOST_PARTS = 4
LEAST_KEEPERS = 2
MOST_KEEPERS = 6
MOST_PIECES = 2


class Shelf:
    """What a text tells of parts, keepers and pieces.

    Beside what is promised, spots are all spots, in sequence, and codes tell of
    each spot the parts of its piece, as the bits of an integer, by their places.
    """

    def __init__(self, text):
        wrong = wrong_line(text, stands_in_shelf, is_whole_shelf)
        if wrong is not None:
            raise BadShelf(wrong)
        rows = [line.split(" ") for line in text.split("\n")]
        self.text = text
        self.parts = tuple(rows[0][1:])
        self.circle = Circle(tuple([row[1] for row in rows[1:]]))
        self.pieces = tuple([read_pieces(row[2:]) for row in rows[1:]])
        self.spots = all_spots(self.circle, self.pieces)
        self.codes = {spot: piece_code(self.parts, piece_at(self, spot)) for spot in self.spots}

    def __len__(self):
        return len(self.spots)

    def __eq__(self, other):
        return isinstance(other, Shelf) and self.text == other.text


def answer(shelf, keeper, record):
    """The values of this keeper's pieces."""
    refuse_keeper(shelf, keeper)
    refuse_record(shelf, record)
    place = shelf.circle.names.index(keeper)
    return "".join([worth(shelf, piece, record) for piece in shelf.pieces[place]])


def comes_to(shelf, spots):
    """The parts that an odd number of these pieces have."""
    if not is_sum(shelf, spots):
        raise BadSum(spots)
    return odd_parts(shelf.parts, [piece_at(shelf, spot) for spot in spots])


def stands_in_shelf(ahead, line):
    """Whether a line can stand behind those ahead of it."""
    if len(ahead) == 0:
        return is_parts_line(line)
    words = line.split(" ")
    if words[0] != "keeper" or not 3 <= len(words) <= 2 + MOST_PIECES or len(ahead) > MOST_KEEPERS:
        return False
    taken = [row.split(" ")[1] for row in ahead[1:]]
    parts = ahead[0].split(" ")[1:]
    return is_name(words[1]) and words[1] not in taken and all([is_piece_word(parts, word) for word in words[2:]])


def is_parts_line(line):
    words = line.split(" ")
    return words[0] == "parts" and 2 <= len(words) <= 1 + MOST_PARTS and are_names(words[1:])


def is_piece_word(parts, word):
    some = word.split("+")
    return some == [part for part in parts if part in some]


def is_whole_shelf(lines):
    return len(lines) > LEAST_KEEPERS


def read_pieces(words):
    return tuple([tuple(word.split("+")) for word in words])


def shelf_text(parts, names, pieces):
    """The text of the shelf that has these parts, keepers and, for each keeper, these pieces."""
    words = [[name] + ["+".join(piece) for piece in row] for name, row in zip(names, pieces)]
    return "\n".join([" ".join(["parts"] + list(parts))] + [" ".join(["keeper"] + row) for row in words])


def all_spots(circle, pieces):
    return tuple([(keeper, number) for keeper, row in zip(circle.names, pieces) for number in range(len(row))])


def piece_at(shelf, spot):
    return shelf.pieces[shelf.circle.names.index(spot[0])][spot[1]]


def piece_code(parts, piece):
    return sum([1 << parts.index(part) for part in piece])


def odd_parts(parts, pieces):
    """The parts, in sequence, that an odd number of pieces have."""
    counts = [len([piece for piece in pieces if part in piece]) for part in parts]
    return tuple([part for part, count in zip(parts, counts) if count & 1])


def records(shelf):
    """All records, ascending."""
    return all_bits(len(shelf.parts))


def worth(shelf, piece, record):
    """The value of a piece, as a character."""
    ones = [part for part, sign in zip(shelf.parts, record) if sign == "1" and part in piece]
    return "01"[len(ones) & 1]


def is_record(shelf, value):
    return are_bits(value, len(shelf.parts))


def is_sum(shelf, value):
    if not isinstance(value, tuple):
        return False
    # Numbers are asked for ahead: a spot with True for 1 would pass for one in what follows.
    if not all([is_row(spot, 2) and is_integer(spot[1]) for spot in value]):
        return False
    return value == tuple([spot for spot in shelf.spots if spot in value])


def refuse_keeper(shelf, value):
    if value not in shelf.circle:
        raise NoKeeper(value)


def refuse_record(shelf, value):
    if not is_record(shelf, value):
        raise BadRecord(value)
