"""A desk: what is done in a house, and asked of it, line by line."""

from lotkeepers.errors import BadLine
from lotkeepers.journals import do_deed, read_deed, read_integer, read_journal
from lotkeepers.wellness import audit


class Desk:
    """The house of a journal, and what is told of it."""

    def __init__(self, text):
        self.house = read_journal(text)

    def say(self, line):
        """Does what the line tells, and returns the answer."""
        if not isinstance(line, str) or "\n" in line:
            raise BadLine(line)
        deed = read_deed(line)
        if deed is not None:
            return told_as(do_deed(self.house, deed))
        words = line.split(" ")
        if len(words) == 2 and "" not in words:
            return asked_of(self.house, line, words[0], words[1])
        return told_by(self.house, line)


def told_by(house, line):
    """The answer to a line of one word."""
    if line == "undo":
        return told_as(house.undo())
    if line == "redo":
        return told_as(house.redo())
    if line == "audit":
        return joined(audit(house))
    if line == "ended":
        return joined(house.ended)
    if line == "down":
        return joined(house.down)
    raise BadLine(line)


def asked_of(house, line, word, last):
    """The answer to a line of two words that is none of a deed."""
    if word == "holds":
        return joined(house.holds(last))
    number = read_integer(last)
    if word != "read" or number is None:
        raise BadLine(line)
    stamp = house.read(number, None)
    return joined((stamp, record_of(house, stamp)))


def record_of(house, stamp):
    return "0" * len(house.store.shelf.parts) if stamp == 0 else house.records[stamp - 1]


def told_as(value):
    """What a deed returned, as an answer."""
    if value is None:
        return "ok"
    return joined(value) if isinstance(value, tuple) else str(value)


def joined(some):
    return " ".join([str(part) for part in some]) if some != () else "-"
