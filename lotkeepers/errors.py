"""All errors of the package: each keeps the value that it tells."""


class LotError(ValueError):
    """The base of all errors below."""

    def __init__(self, value):
        self.value = value


class BadNames(LotError):
    """What is no tuple of unlike names, or of keepers."""


class BadLot(LotError):
    """What is no lot of the circle."""


class BadLots(LotError):
    """What is no tuple of unlike lots."""


class BadFamily(LotError):
    """What is no family of the circle."""


class Unmet(LotError):
    """A family that no lot meets."""


class BadChance(LotError):
    """What is no chance."""


class BadShelf(LotError):
    """The number of the line at which a text is no shelf."""


class NoKeeper(LotError):
    """What is no keeper."""


class BadRecord(LotError):
    """What is no record."""


class BadSum(LotError):
    """What is no sum, or not the sum that is asked for."""


class NeverBack(LotError):
    """A record on which all pieces have the value 0."""


class BadAnswers(LotError):
    """What are no answers."""


class OtherShelf(LotError):
    """What is no shelf, or store, that goes with the first one."""


class BadChanges(LotError):
    """What are no sums of parts that tell all parts."""


class BadStore(LotError):
    """The number of the line at which a text is no store."""


class Held(LotError):
    """The number of a lot that is there already."""


class Full(LotError):
    """How many there are at the most."""


class NoLot(LotError):
    """What is no number of a lot of the store."""


class Last(LotError):
    """The number of the only lot of its kind."""


class Unsound(LotError):
    """What sound tells of a store that is not sound."""


class BadNumber(LotError):
    """What is no number of keepers."""


class Unserved(LotError):
    """The number of the first lot that is not enough by itself."""


class BadPrices(LotError):
    """What are no prices."""


class BadOffers(LotError):
    """What are no offers."""


class BadWishes(LotError):
    """What are no wishes."""


class BadChoice(LotError):
    """What is no choice."""


class BadRun(LotError):
    """One more than the number of the first deed that cannot be done."""


class NoRead(LotError):
    """What is no number of a read."""


class NoStamp(LotError):
    """What is no stamp."""


class BadHistory(LotError):
    """What is no history."""


class NoTurn(LotError):
    """A lot by which no read is turned about."""


class TooLong(LotError):
    """How many deeds there would be."""


class BadState(LotError):
    """What is no state."""


class BadBound(LotError):
    """What is no bound."""


class NeverSure(LotError):
    """A bound against which not even all keepers are sure."""


class Unbelieved(LotError):
    """A bound by which no record is believed."""


class BadHolding(LotError):
    """What is no holding."""


class Unsafe(LotError):
    """What is no stamp that is safe, or the greatest one that is."""


class BadHelpers(LotError):
    """What are no helpers."""


class NoHelp(LotError):
    """The number of the first piece that cannot be made anew."""


class NoPlan(LotError):
    """The lot of those that cannot be mended."""


class BadWay(LotError):
    """What is no way."""


class TooMany(LotError):
    """How many lots of a kind there are at the most."""


class BadSteps(LotError):
    """What are no steps."""


class TooFew(LotError):
    """How many keepers there are at the least."""


class Emptied(LotError):
    """A lot that would have no keeper."""


class BadName(LotError):
    """What is no new name."""


class BadPieces(LotError):
    """What are no pieces."""


class TooManyKeepers(LotError):
    """How many keepers there are at the most."""


class NotOf(LotError):
    """A keeper that is not to be given these pieces."""


class Down(LotError):
    """The lot of the keepers that are down."""


class IsUp(LotError):
    """A keeper that is up."""


class Misses(LotError):
    """What across tells of two stores."""


class Older(LotError):
    """The stamp of an elder write that has not ended."""


class NothingToUndo(LotError):
    """None: no deed stands."""


class NothingToRedo(LotError):
    """None: no deed was taken back."""


class NoTrial(LotError):
    """None: no block is under way."""


class BadJournal(LotError):
    """The number of the line at which a text is no journal."""


class BadLine(LotError):
    """What is no line of a desk."""
