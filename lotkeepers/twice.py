"""Reads that are asked twice: what they brought they give again."""

from lotkeepers.errors import TooLong
from lotkeepers.judging import has_ended
from lotkeepers.ledgers import MOST_DEEDS


def doubled(run):
    """The deeds of the run with each read asked twice."""
    deeds = []
    for number, deed in enumerate(run.deeds):
        if deed[0] == "read" and deed[2] is None:
            deeds.append(("read", deed[1], 0))
        else:
            deeds.append(deed)
        deeds.extend(deeds_again(run, number))
    if len(deeds) > MOST_DEEDS:
        raise TooLong(len(deeds))
    return tuple(deeds)


def owed(run):
    """For each read, the greatest stamp that it has to bring by all that had ended ahead of its begin."""
    return tuple([owed_by(run, row[2]) for row in run.reads])


def deeds_again(run, at):
    """What reads that were asked once, and had heard by the deed with this number, give again."""
    reads = [read for read, row in enumerate(run.reads) if run.heard[read] == at and row[1] is None]
    return [("again", read, keeper) for read in reads for keeper in run.store.writes[0]]


def owed_by(run, at):
    """The greatest stamp that a read that begins by this deed has to bring."""
    writes = [number + 1 for number, row in enumerate(run.writes) if has_ended(row, at)]
    reads = [run.brought(read) for read, row in enumerate(run.reads) if row[1] is not None and has_ended(row, at)]
    return max([0] + writes + reads)
