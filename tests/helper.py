"""What the tests share: strict comparison, wrong values, values near right ones, all small families."""

import itertools

from lotkeepers.circles import Circle
from lotkeepers.shelves import Shelf

RING = Circle(("a", "b", "c", "d"))
SHELF_TEXT = "parts x y\nkeeper a x\nkeeper b y\nkeeper c x+y\nkeeper d x y"


def deep(many):
    """Lists, tuples and dicts in one another, so many deep."""
    value = "a"
    for number in range(many):
        value = ([value], (value,), {"a": value})[number % 3]
    return value


def junk():
    """Values of all kinds that a caller may pass."""
    return [
        None, True, False, 0, 1, -1, 2, 7, 999999999,
        "", "a", "b", "ab", "0", "1", "01", "A", "a b", "x+y", "\n",
        (), ((),), ((), ()), (((),),), [], [()], ([],), {}, {"a": 1}, ({},),
        ("a",), ("a", "a"), ("b", "a"), ("z",), ("a", "z"), ["a"], (["a"],), (("a",),), [("a",)], (("a",), ["b"]),
        (1,), (True,), (None,), (0, 1), ("a", 0), ("a", True), (("a", 0),), (("a", True),), (("a", "0"),),
        ("meet",), ("alike",), ("one",), ("other",), ("same",), ("stands",), ("has",), ("back", ()), ("torn", ()), ("sound", ()),
        deep(30), Circle(("a", "b")), (Circle(("a", "b", "c", "d")),), Shelf(SHELF_TEXT), [Shelf(SHELF_TEXT)],
    ]


def alike(one, other):
    """Whether two values are the same, lists told from tuples and truths from integers at each depth."""
    if type(one) is not type(other):
        return False
    if isinstance(one, (list, tuple)):
        return len(one) == len(other) and all(alike(a, b) for a, b in zip(one, other))
    if isinstance(one, dict):
        return list(one) == list(other) and all(alike(one[key], other[key]) for key in one)
    return one == other


def near(value):
    """Values that differ from this one by little: none of them is the same as it."""
    found = list(near_by(value))
    return [other for other in found if not alike(other, value)]


def near_by(value):
    if isinstance(value, bool):
        yield from (int(value), not value, str(value))
    elif isinstance(value, int):
        yield from (value + 1, value - 1, value + 7, bool(value), str(value), (value,), None)
    elif isinstance(value, str):
        yield from (value + "a", value + "0", value[:-1], value[::-1], value.upper(), value + " ", (value,), [value])
        yield from (tuple(value), None, 0, 1)
        yield value.translate({ord("0"): "1", ord("1"): "0"})
        yield from RING.names
    elif isinstance(value, tuple):
        yield list(value)
        yield (value,)
        yield value + ("a",)
        yield value + ((),)
        yield value[::-1]
        yield value + value[-1:]
        yield value[:-1]
        yield value[1:]
        yield from ((), None, {})
        for place, inner in enumerate(value):
            for other in near_by(inner):
                yield value[:place] + (other,) + value[place + 1:]


class Checks:
    """To be mixed into a test case."""

    def check_same(self, made, right):
        self.assertTrue(alike(made, right), (made, right))

    def check_raises(self, error, value, call, *some, **named):
        """The error is this very one, and keeps this value: the very one, unless it was made."""
        with self.assertRaises(error) as caught:
            call(*some, **named)
        self.assertIs(type(caught.exception), error)
        kept = caught.exception.value
        self.assertTrue(kept is value or isinstance(value, (int, tuple)) and alike(kept, value), (kept, value))

    def check_keeps(self, error, value, call, *some, **named):
        """The error keeps the very value that was passed."""
        with self.assertRaises(error, msg=repr(value)) as caught:
            call(*some, **named)
        self.assertIs(type(caught.exception), error)
        self.assertIs(caught.exception.value, value)

    def check_refuses(self, error, values, call):
        """Each of these values is refused by this call, and kept by the error."""
        for value in values:
            self.check_keeps(error, value, call, value)

    def check_shows(self, shows, some, is_right, rights):
        """The shows_ function takes each right value, and all others near these exactly if they are right."""
        for right in rights:
            self.assertIs(shows(*some, right), True, (some, right))
            self.assertIs(shows(*some, value=right), True, (some, right))
            for value in near(right):
                self.assertIs(shows(*some, value), is_right(value), (some, right, value))
        for value in junk():
            self.assertIs(shows(*some, value), is_right(value), (some, value))


def one_of(rights):
    """A judge of values: whether one is among these, strictly."""
    return lambda value: any(alike(value, right) for right in rights)


def of_rows(word, rows):
    """A judge of values: whether one is this word, and a tuple with one value out of each row, in sequence."""
    def is_right(value):
        if type(value) is not tuple or len(value) != 2 or value[0] != word:
            return False
        if type(value[1]) is not tuple or len(value[1]) != len(rows):
            return False
        return all(one_of(row)(held) for row, held in zip(rows, value[1]))
    return is_right


def all_lots(names):
    """All lots, in sequence, gone through by how many keepers they have."""
    return [lot for many in range(len(names) + 1) for lot in itertools.combinations(names, many)]


def inside(lot, other):
    return set(lot) <= set(other)


def least_lots(names, some):
    """The least ones of some lots, in sequence."""
    kept = [lot for lot in some if not any(inside(other, lot) and set(other) != set(lot) for other in some)]
    return tuple(lot for lot in all_lots(names) if lot in kept)


def has_family(family, lot):
    return any(inside(row, lot) for row in family)


def all_families(names):
    """All families of lots of these keepers."""
    grown = [()]
    for lot in all_lots(names):
        grown += [rows + (lot,) for rows in grown if not any(inside(row, lot) for row in rows)]
    return [rows for rows in grown if rows]
