"""The cheapest changes by which a store comes to be as it is wished."""

from lotkeepers.circles import is_lot
from lotkeepers.costs import is_price
from lotkeepers.errors import BadChoice, BadOffers, BadWishes
from lotkeepers.forms import is_from_to, is_number_of, is_row, is_same, is_told
from lotkeepers.shelves import MOST_KEEPERS, Shelf, shelf_text
from lotkeepers.sound import sound
from lotkeepers.spare import is_piece
from lotkeepers.standing import stands
from lotkeepers.stores import MOST_LOTS, made_of

MOST_OFFERS = 4
MOST_WISHES = 3


def by_choice(store, offers, choice):
    """The store with what these offers bring."""
    refuse_offers(store, offers)
    if not is_choice(offers, choice):
        raise BadChoice(choice)
    return changed_by(store, offers, choice)


def cheapest(store, offers, wishes):
    """The first choice that serves, and why none ahead of it does."""
    refuse_offers(store, offers)
    refuse_wishes(store, wishes)
    reasons = []
    for price, choice in choices(offers):
        number = first_not_kept(changed_by(store, offers, choice), wishes)
        if number is None:
            return ("choice", price, choice, tuple(reasons))
        reasons.append((choice, number))
    return ("none", tuple(reasons))


def shows_cheapest(store, offers, wishes, value):
    right = cheapest(store, offers, wishes)
    # Only of the reasons, which stand last, there are several right ones.
    if not is_row(value, len(right)) or not is_same(value[:-1], right[:-1]):
        return False
    reasons = value[-1]
    if not is_row(reasons, len(right[-1])):
        return False
    pairs = list(zip(reasons, right[-1]))
    return all([is_reason(store, offers, wishes, choice, reason) for reason, (choice, _) in pairs])


def refuse_offers(store, value):
    if not are_offers(store, value):
        raise BadOffers(value)


def are_offers(store, value):
    if not isinstance(value, tuple) or not 1 <= len(value) <= MOST_OFFERS:
        return False
    if not all([is_offer(store, offer) for offer in value]) or len(set([offer[:-1] for offer in value])) < len(value):
        return False
    keepers = offered(value, "piece")
    if len(set(keepers)) < len(keepers):
        return False
    many = (len(store.writes) + len(offered(value, "write")), len(store.asks) + len(offered(value, "ask")))
    return max(many) <= MOST_LOTS


def is_offer(store, value):
    if is_told(value, "piece", 4):
        return is_keeper_of_one(store.shelf, value[1]) and is_piece(store.shelf, value[2]) and is_price(value[3])
    if is_told(value, "write", 3):
        return is_new(store, store.writes, value[1]) and is_price(value[2])
    return is_told(value, "ask", 3) and is_new(store, store.asks, value[1]) and is_price(value[2])


def is_new(store, some, value):
    """Whether this is a lot of one or more keepers that is none of these."""
    return is_lot(store.shelf.circle, value) and value != () and value not in some


def is_keeper_of_one(shelf, value):
    """Whether this is a keeper that has one piece."""
    return value in shelf.circle and len(shelf.pieces[shelf.circle.names.index(value)]) == 1


def offered(offers, word):
    """The lots, or the keepers, of the offers of this kind."""
    return tuple([offer[1] for offer in offers if offer[0] == word])


def refuse_wishes(store, value):
    if not are_wishes(store, value):
        raise BadWishes(value)


def are_wishes(store, value):
    if not isinstance(value, tuple) or not 1 <= len(value) <= MOST_WISHES:
        return False
    return all([is_wish(store, wish) for wish in value]) and len(set(value)) == len(value)


def is_wish(store, value):
    if is_told(value, "stands", 2):
        return is_from_to(value[1], 0, len(store.shelf.circle))
    if is_told(value, "askers", 2):
        return is_from_to(value[1], 1, MOST_KEEPERS)
    return value == ("sound",)


def is_choice(offers, value):
    if not isinstance(value, tuple) or not all([is_number_of(number, offers) for number in value]):
        return False
    return value == tuple([number for number in range(len(offers)) if number in value])


def choices(offers):
    """All choices, in sequence, each behind its price."""
    codes = range(1 << len(offers))
    rows = [tuple([number for number in range(len(offers)) if code >> number & 1]) for code in codes]
    ordered = sorted([(sum([offers[number][-1] for number in row]), len(row), row) for row in rows])
    return [(price, choice) for price, _, choice in ordered]


def changed_by(store, offers, choice):
    """As by_choice, of what is known to be right."""
    chosen = tuple([offers[number] for number in choice])
    more = {offer[1]: (offer[2],) for offer in chosen if offer[0] == "piece"}
    shelf = store.shelf
    pieces = [row + more.get(keeper, ()) for keeper, row in zip(shelf.circle.names, shelf.pieces)]
    changed = Shelf(shelf_text(shelf.parts, shelf.circle.names, pieces))
    return made_of(changed, store.writes + offered(chosen, "write"), store.asks + offered(chosen, "ask"))


def first_not_kept(store, wishes):
    """The number of the first wish that the store does not keep, None if it keeps all."""
    for number, wish in enumerate(wishes):
        if not keeps(store, wish):
            return number
    return None


def keeps(store, wish):
    if wish[0] == "stands":
        return stands(store, wish[1]) == ("stands",)
    if wish[0] == "askers":
        return min([len(lot) for lot in store.asks]) <= wish[1]
    return sound(store)[0] == "sound"


def is_reason(store, offers, wishes, choice, value):
    """Whether this tells of this choice the number of a wish that its store does not keep."""
    if not is_row(value, 2) or not is_same(value[0], choice) or not is_number_of(value[1], wishes):
        return False
    return not keeps(changed_by(store, offers, choice), wishes[value[1]])
