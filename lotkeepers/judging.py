"""Judged runs: reads that miss, that turn about, that are early."""

from lotkeepers.forms import is_one_of


def missed(run):
    """Whether a read brings less than a write that had ended ahead of its begin."""
    return all_missed(run)[0]


def shows_missed(run, value):
    return is_one_of(value, all_missed(run))


def turned(run):
    """Whether a read brings less than one that had ended ahead of its begin."""
    return all_turned(run)[0]


def shows_turned(run, value):
    return is_one_of(value, all_turned(run))


def early(run):
    """The numbers of the reads that bring the stamp of a write that has not ended when they have heard."""
    return tuple([read for read in reads_heard(run) if is_early(run, read)])


def reads_heard(run):
    return [read for read, at in enumerate(run.heard) if at is not None]


def all_missed(run):
    """All that missed may tell."""
    pairs = [(read, stamp) for read in reads_heard(run) for stamp in range(1, len(run.writes) + 1)]
    return [("missed",) + pair for pair in pairs if is_missed(run, pair[0], pair[1])] or [("none",)]


def is_missed(run, read, stamp):
    return has_ended(run.writes[stamp - 1], run.reads[read][2]) and run.brought(read) < stamp


def all_turned(run):
    """All that turned may tell."""
    heard = reads_heard(run)
    pairs = [(first, second) for first in heard for second in heard]
    return [("turned",) + pair for pair in pairs if is_turned(run, pair[0], pair[1])] or [("none",)]


def is_turned(run, first, second):
    return has_ended(run.reads[first], run.reads[second][2]) and run.brought(first) > run.brought(second)


def is_early(run, read):
    stamp = run.brought(read)
    return stamp > 0 and not has_ended(run.writes[stamp - 1], run.heard[read])


def has_ended(row, at):
    """Whether a write or a read, as the run tells it, had ended ahead of the deed with this number."""
    return row[3] is not None and row[3] < at
