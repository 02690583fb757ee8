"""Stores: a shelf, the lots that are written to, and the lots that are asked."""

from lotkeepers.circles import are_lots, is_lot
from lotkeepers.errors import BadLot, BadLots, BadStore, Full, Held, Last, NoLot
from lotkeepers.forms import is_number_of, wrong_line
from lotkeepers.shelves import LEAST_KEEPERS, Shelf, stands_in_shelf

MOST_LOTS = 8


class Store:
    """What a text tells of a shelf, its writing lots and its reading lots."""

    def __init__(self, text):
        wrong = wrong_line(text, stands_in_store, is_whole_store)
        if wrong is not None:
            raise BadStore(wrong)
        lines = text.split("\n")
        self.text = text
        self.shelf = Shelf("\n".join([line for line in lines if first_word(line) in ("parts", "keeper")]))
        self.writes = read_lots(lines, "write")
        self.asks = read_lots(lines, "ask")

    def __eq__(self, other):
        return isinstance(other, Store) and self.text == other.text

    def with_write(self, lot):
        return made_of(self.shelf, with_lot(self.shelf, self.writes, lot), self.asks)

    def with_ask(self, lot):
        return made_of(self.shelf, self.writes, with_lot(self.shelf, self.asks, lot))

    def without_write(self, number):
        return made_of(self.shelf, without_lot(self.writes, number), self.asks)

    def without_ask(self, number):
        return made_of(self.shelf, self.writes, without_lot(self.asks, number))


def store_of(shelf, writes, asks):
    """The store of this shelf with these lots."""
    refuse_lots(shelf, writes)
    refuse_lots(shelf, asks)
    return made_of(shelf, writes, asks)


def made_of(shelf, writes, asks):
    """As store_of, of what is known to be right."""
    lines = [" ".join(("write",) + lot) for lot in writes] + [" ".join(("ask",) + lot) for lot in asks]
    return Store("\n".join([shelf.text] + lines))


def with_lot(shelf, some, lot):
    if not is_lot(shelf.circle, lot) or lot == ():
        raise BadLot(lot)
    if lot in some:
        raise Held(some.index(lot))
    if len(some) == MOST_LOTS:
        raise Full(MOST_LOTS)
    return some + (lot,)


def without_lot(some, number):
    refuse_number(some, number)
    if len(some) == 1:
        raise Last(number)
    return some[:number] + some[number + 1:]


def refuse_number(some, value):
    """Unless this is the number of one of some lots of a store."""
    if not is_number_of(value, some):
        raise NoLot(value)


def refuse_lots(shelf, value):
    """Unless this may be all lots of a kind."""
    if not are_lots(shelf.circle, value) or len(value) > MOST_LOTS or () in value:
        raise BadLots(value)


def first_word(line):
    return line.split(" ")[0]


def read_lots(lines, word):
    return tuple([tuple(line.split(" ")[1:]) for line in lines if first_word(line) == word])


def stands_in_store(ahead, line):
    """Whether a line can stand behind those ahead of it."""
    words = [first_word(row) for row in ahead]
    word = first_word(line)
    if word == "write":
        return "ask" not in words and words.count("keeper") >= LEAST_KEEPERS and is_new_lot(ahead, line)
    if word == "ask":
        return "write" in words and is_new_lot(ahead, line)
    return "write" not in words and stands_in_shelf(ahead, line)


def is_new_lot(ahead, line):
    """Whether a line tells one lot more of its kind."""
    names = line.split(" ")[1:]
    keepers = [row.split(" ")[1] for row in ahead if first_word(row) == "keeper"]
    held = [row for row in ahead if first_word(row) == first_word(line)]
    if line in held or len(held) == MOST_LOTS:
        return False
    return len(names) > 0 and names == [keeper for keeper in keepers if keeper in names]


def is_whole_store(lines):
    return first_word(lines[-1]) == "ask"
