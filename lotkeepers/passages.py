"""The cheapest ways by which one gets from one store to another one."""

from lotkeepers.costs import is_price
from lotkeepers.errors import BadSteps
from lotkeepers.forms import is_row, is_same
from lotkeepers.leading import across, refuse_store
from lotkeepers.stores import Store

MOST_STEPS = 4


def passage(one, other, steps):
    """The first numbers, at the least price, of steps that make a passage; otherwise all steps that can be reached."""
    refuse_store(one, other)
    refuse_steps(one, steps)
    stores = [store for store, _ in steps] + [one, other]
    first, last = len(steps), len(steps) + 1
    found = bridges(stores)
    rows = rows_of(steps)
    for price, _, numbers in rows:
        if is_copied(found, (first,) + numbers + (last,)):
            return ("passage", price, numbers)
    reached = [row[-1] for _, _, row in rows if row != () and is_copied(found, (first,) + row)]
    return ("never", tuple([number for number in range(len(steps)) if number in reached]))


def shows_passage(one, other, steps, value):
    # There is just one right result.
    return is_same(value, passage(one, other, steps))


def refuse_steps(one, value):
    if not are_steps(one, value):
        raise BadSteps(value)


def are_steps(one, value):
    if not isinstance(value, tuple) or not 1 <= len(value) <= MOST_STEPS:
        return False
    if not all([is_step(one, row) for row in value]):
        return False
    return len(set([store.text for store, _ in value])) == len(value)


def is_step(one, value):
    if not is_row(value, 2) or not isinstance(value[0], Store):
        return False
    return value[0].shelf == one.shelf and is_price(value[1])


def rows_of(steps):
    """All sequences of unlike steps, each behind its price and its length, in the sequence in which they are tried."""
    rows = [()]
    longest = [()]
    for _ in steps:
        longest = [row + (number,) for row in longest for number in range(len(steps)) if number not in row]
        rows.extend(longest)
    return sorted([(sum([steps[number][1] for number in row]), len(row), row) for row in rows])


def bridges(stores):
    """The numbers of all two stores, perhaps the same, of which the first one is across to the second one."""
    every = range(len(stores))
    pairs = [(early, late) for early in every for late in every]
    return [(early, late) for early, late in pairs if across(stores[early], stores[late])[0] == "across"]


def is_copied(found, numbers):
    """Whether the way of the stores with these numbers is copied."""
    pairs = list(zip(numbers, numbers)) + list(zip(numbers, numbers[1:]))
    return all([pair in found for pair in pairs])
