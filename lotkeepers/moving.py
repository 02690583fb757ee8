"""Keepers that come and go."""

from lotkeepers.circles import less
from lotkeepers.errors import BadName, BadPieces, Emptied, TooFew, TooManyKeepers
from lotkeepers.forms import is_name
from lotkeepers.shelves import LEAST_KEEPERS, MOST_KEEPERS, MOST_PIECES, Shelf, refuse_keeper, shelf_text
from lotkeepers.sound import refuse_unsound, sound
from lotkeepers.spare import is_piece
from lotkeepers.stores import made_of


def without_keeper(store, keeper):
    """The store of all other keepers."""
    shelf = store.shelf
    refuse_keeper(shelf, keeper)
    if len(shelf.circle) == LEAST_KEEPERS:
        raise TooFew(LEAST_KEEPERS)
    if (keeper,) in store.writes + store.asks:
        raise Emptied((keeper,))
    rows = [(name, row) for name, row in zip(shelf.circle.names, shelf.pieces) if name != keeper]
    smaller = Shelf(shelf_text(shelf.parts, [name for name, _ in rows], [row for _, row in rows]))
    return made_of(smaller, lots_without(store.writes, keeper), lots_without(store.asks, keeper))


def with_keeper(store, name, pieces):
    """The store with a keeper more, who is in none of its lots."""
    shelf = store.shelf
    if not is_name(name) or name in shelf.circle:
        raise BadName(name)
    if not are_pieces(shelf, pieces):
        raise BadPieces(pieces)
    if len(shelf.circle) == MOST_KEEPERS:
        raise TooManyKeepers(MOST_KEEPERS)
    greater = Shelf(shelf_text(shelf.parts, shelf.circle.names + (name,), shelf.pieces + (pieces,)))
    return made_of(greater, store.writes, store.asks)


def still(store, keeper):
    """Whether the store without this keeper is sound."""
    smaller = without_keeper(store, keeper)
    refuse_unsound(store)
    told = sound(smaller)
    return ("sound",) if told[0] == "sound" else told


def lots_without(some, keeper):
    """The lots without this keeper, each once, where it stands first."""
    kept = []
    for lot in some:
        smaller = less(lot, (keeper,))
        if smaller not in kept:
            kept.append(smaller)
    return tuple(kept)


def are_pieces(shelf, value):
    """Whether these are all pieces of a keeper."""
    if not isinstance(value, tuple) or not 1 <= len(value) <= MOST_PIECES:
        return False
    return all([is_piece(shelf, piece) for piece in value])
