"""Journals: what was done in a house, as a text that can be read back."""

from lotkeepers.errors import BadJournal, BadStore, LotError
from lotkeepers.houses import House
from lotkeepers.sound import sound
from lotkeepers.stores import Store, store_of

DIGITS = "0123456789"
# What stands behind the word of a deed's line: an integer, any word, or the lots of a store.
FORMS = {
    "put": ("integer", "word"), "give": ("integer", "word"), "fall": ("word",), "rise": ("word",), "lose": ("word",),
    "read": ("integer", "integer"), "letgo": ("integer",), "lead": ("lots", "integer", "integer"),
}


def journal(house):
    """The text of the house: its first store, and its deeds."""
    return "\n".join([house.first.text, "house"] + [deed_line(deed) for deed in house.log.deeds])


def read_journal(text):
    """A house on which all deeds of this text were done."""
    if not isinstance(text, str):
        raise BadJournal(0)
    lines = text.split("\n")
    if "house" not in lines:
        raise BadJournal(len(lines) + 1)
    place = lines.index("house")
    house = House(first_store(lines[:place]))
    for number, line in enumerate(lines[place + 1:], start=place + 2):
        if not is_done(house, line):
            raise BadJournal(number)
    return house


def first_store(lines):
    """The store that stands ahead of the line `house`."""
    try:
        store = Store("\n".join(lines))
    except BadStore as wrong:
        raise BadJournal(wrong.value)
    if sound(store)[0] != "sound":
        raise BadJournal(len(lines) + 1)
    return store


def is_done(house, line):
    """Does what the line tells, and tells whether it could be done."""
    deed = read_deed(line)
    if deed is None:
        return False
    try:
        do_deed(house, deed)
    except LotError:
        return False
    return True


def do_deed(house, deed):
    """Does what read_deed told, and returns what the house does."""
    word = deed[0]
    if word == "put":
        return house.put(deed[1], deed[2])
    if word == "give":
        return house.give(deed[1], deed[2])
    if word == "fall":
        return house.fall(deed[1])
    if word == "rise":
        return house.rise(deed[1])
    if word == "lose":
        return house.lose(deed[1])
    if word == "mend":
        return house.mend(deed[1], deed[2])
    if word == "read":
        return house.read(deed[1], deed[2])
    if word == "letgo":
        return house.let_go(deed[1])
    writes, asks = deed[1]
    return house.lead(store_of(house.store.shelf, writes, asks), deed[2], deed[3])


def deed_line(deed):
    if deed[0] == "mend":
        return " ".join(("mend", deed[1]) + deed[2])
    if deed[0] == "lead":
        return " ".join(["lead", lots_word(deed[1]), str(deed[2]), str(deed[3])])
    return " ".join([str(part) for part in deed])


def lots_word(store):
    kinds = [[".".join(lot) for lot in some] for some in (store.writes, store.asks)]
    return "/".join([",".join(row) for row in kinds])


def read_deed(line):
    """The words of a deed's line, told as values, None if it has no such form."""
    words = line.split(" ")
    if "" in words:
        return None
    if words[0] == "mend" and len(words) > 1:
        return ("mend", words[1], tuple(words[2:]))
    kinds = FORMS.get(words[0], ())
    if kinds == () or len(words) != len(kinds) + 1:
        return None
    values = [read_word(kind, word) for kind, word in zip(kinds, words[1:])]
    return None if None in values else (words[0],) + tuple(values)


def read_word(kind, word):
    """The value of a word, None if it is not of this kind."""
    if kind == "integer":
        return read_integer(word)
    return read_lots(word) if kind == "lots" else word


def read_integer(word):
    """The integer that Python writes so, None if there is none."""
    figures = word[1:] if word.startswith("-") else word
    if figures == "" or not all([sign in DIGITS for sign in figures]):
        return None
    return int(word) if str(int(word)) == word else None


def read_lots(word):
    """The writing lots and the reading lots, as tuples of names; None if the word tells none."""
    kinds = [[lot.split(".") for lot in some.split(",")] for some in word.split("/")]
    if len(kinds) != 2 or "" in [name for some in kinds for lot in some for name in lot]:
        return None
    return tuple([tuple([tuple(lot) for lot in some]) for some in kinds])
