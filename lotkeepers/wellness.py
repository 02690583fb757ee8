"""What is well in a house, and who can be helped."""

from lotkeepers.bringing import greatest_back
from lotkeepers.circles import less
from lotkeepers.scenes import brought, stamps_made


def audit(house):
    """Whether each reading lot brings the greatest stamp that has ended, or a greater one."""
    owed = max((0,) + house.ended)
    for number, lot in enumerate(house.store.asks):
        stamp = brought(house.log.scene, lot)
        if stamp < owed:
            return ("ill", number, stamp)
    return ("well",)


def cure(house):
    """For each keeper that is up, the stamps that it has not, and can make anew from all others that are up."""
    up = house.store.shelf.circle.rest(house.down)
    rows = [(keeper, stamps_made(house.log.scene, keeper, less(up, (keeper,)))) for keeper in up]
    return tuple(sorted([(keeper, stamps) for keeper, stamps in rows if stamps != ()]))


def spread(house):
    """For each stamp, the lot of the keepers who have its pieces."""
    return house.log.scene.held


def needed(house):
    """For each stamp, whether there is a keeper without whose pieces of it some reading lot brings less."""
    return tuple([is_needed(house, place) for place in range(len(house))])


def is_needed(house, place):
    held = house.log.scene.held
    fewer = [held[:place] + (less(held[place], (keeper,)),) + held[place + 1:] for keeper in held[place]]
    return any([brings_less(house, lot, rows) for lot in house.store.asks for rows in fewer])


def brings_less(house, lot, held):
    """Whether a reading lot would bring less if keepers had just these pieces."""
    return greatest_back(house.store.shelf, held, lot) < brought(house.log.scene, lot)
