"""The parts of the program at work together: houses beside runs, ways, plans and cheapest changes."""

import random
import unittest

from helper import Checks, all_lots
from house_model import CROSSING, drawn_houses, sound_stores
from lotkeepers.answers import told
from lotkeepers.bringing import brings_back
from lotkeepers.changing import by_choice, cheapest
from lotkeepers.circles import common
from lotkeepers.errors import Misses, Older
from lotkeepers.fetching import fewest_fetched
from lotkeepers.freest import freed
from lotkeepers.forgetting import brought_by, let_go, safe_below
from lotkeepers.houses import House
from lotkeepers.joint import by_joint
from lotkeepers.journals import journal, read_journal
from lotkeepers.judging import missed
from lotkeepers.leading import across, copied, led
from lotkeepers.mending import made, mends
from lotkeepers.moving import still, with_keeper, without_keeper
from lotkeepers.passages import passage
from lotkeepers.plans import plan
from lotkeepers.repaired import after, most_lost
from lotkeepers.runs import Run
from lotkeepers.shelves import answer
from lotkeepers.sound import sound
from lotkeepers.standing import left, most_stood
from lotkeepers.stores import store_of
from lotkeepers.turning import steady
from lotkeepers.twice import doubled, owed
from lotkeepers.wellness import audit, cure, spread
from test_joint import drawn_pairs
from test_leading import drawn_ways
from test_passages import drawn_cases
from test_shelves import SHELF
from test_sound import drawn_stores, is_sound


def up_of(house, lot):
    return [keeper for keeper in lot if keeper not in house.down]


def drawn_record(draw, shelf):
    return "".join(draw.choice("01") for _ in shelf.parts)


class TestBesideRuns(Checks, unittest.TestCase):
    """What is put, given and read in a house is a run, whose deeds come one by one."""

    def drawn_pair(self, draw, store, twice):
        """A house and the deeds of a run that do the same; the stamps that the reads brought."""
        house, deeds, brought = House(store), [], []
        while len(deeds) < 30 and len(house) < 6 and len(brought) < 6:
            kind = draw.random()
            keeper = draw.choice(store.shelf.circle.names)
            if kind < 0.25:
                number = draw.randrange(len(store.writes))
                record = drawn_record(draw, store.shelf)
                stamp = house.put(number, record)
                deeds += [("write", number, record)] + [("give", stamp, name) for name in up_of(house, store.writes[number])]
            elif kind < 0.45:
                (house.rise if keeper in house.down else house.fall)(keeper)
            elif kind < 0.7 and len(house):
                stamp = draw.randint(1, len(house))
                due = [name for name in up_of(house, store.shelf.circle.names) if ("give", stamp, name) not in deeds
                       and stamp not in house.holds(name) and name in store.writes[self.lots_of(deeds)[stamp - 1]]]
                if due:
                    house.give(stamp, due[0])
                    deeds.append(("give", stamp, due[0]))
            else:
                ask, last = draw.randrange(len(store.asks)), draw.randrange(len(store.writes)) if twice else None
                lot = store.asks[ask] + (() if last is None else store.writes[last])
                if common(house.down, lot) == ():
                    read = len(brought)
                    brought.append(house.read(ask, last))
                    deeds += [("read", ask, last)] + [("ask", read, name) for name in store.asks[ask]]
                    deeds += [("again", read, name) for name in store.writes[last]] if twice else []
        return house, tuple(deeds), brought

    def lots_of(self, deeds):
        return [deed[1] for deed in deeds if deed[0] == "write"]

    def test_a_house_and_a_run(self):
        draw = random.Random(60)
        reads = 0
        for number, store in enumerate(sound_stores(150) * 3):
            house, deeds, brought = self.drawn_pair(draw, store, number % 2)
            if len(deeds) > 40:
                continue
            run = Run(store, deeds)
            self.check_same([run.brought(read) for read in range(len(run.reads))], brought)
            self.check_same(house.records, tuple(row[1] for row in run.writes))
            for keeper in store.shelf.circle.names:
                self.check_same(run.has(keeper), house.holds(keeper))
            # In a house, what reads give again counts for the end of writes as well.
            self.assertLessEqual({stamp for stamp, row in enumerate(run.writes, start=1) if row[3] is not None},
                                 set(house.ended))
            self.check_same(missed(run), ("none",))
            for stamp, right in zip(brought, owed(run)):
                self.assertGreaterEqual(stamp, right)
            if steady(store) == ("steady",) or number % 2:
                self.check_same(brought, sorted(brought))
            reads += len(brought)
        self.assertGreater(reads, 200)

    def test_a_read_that_gives_again(self):
        house = House(CROSSING)
        house.fall("c")
        house.put(0, "10")
        house.rise("c")
        run = Run(CROSSING, (("write", 0, "10"), ("give", 1, "a"), ("give", 1, "b"), ("read", 0, None), ("ask", 0, "a"),
                             ("ask", 0, "b")))
        two = Run(CROSSING, doubled(run))
        house.read(0, 0)
        self.check_same([two.has(keeper) for keeper in "abcd"], [house.holds(keeper) for keeper in "abcd"])

    def test_records_come_back(self):
        """What a read brings is the record that was put: by the answers of those who have it."""
        for house, model in drawn_houses(100, 61, 14):
            shelf = house.store.shelf
            for number, lot in enumerate(house.store.asks):
                if common(house.down, lot):
                    continue
                stamp = house.read(number, None)
                if stamp:
                    having = [keeper for keeper in lot if stamp in house.holds(keeper)]
                    answers = tuple((keeper, answer(shelf, keeper, house.records[stamp - 1])) for keeper in having)
                    self.check_same(told(shelf, answers), ("record", house.records[stamp - 1]))


class TestWaysInHouses(Checks, unittest.TestCase):
    """Ways and passages, carried out in a house: reads bring the last write that had ended, or a later one."""

    def walk(self, draw, way):
        house = House(way[0])
        for store in way[1:] + (None,):
            for _ in range(draw.randint(1, 3)):
                number = draw.randrange(len(house.store.writes))
                keeper = draw.choice(house.store.writes[number])
                # Each write ends ahead of the next store's standing: who was down is given it afterwards.
                house.fall(keeper)
                stamp = house.put(number, drawn_record(draw, house.store.shelf))
                house.rise(keeper)
                self.check_same(audit(house), ("well",))
                house.give(stamp, keeper)
                self.check_same(audit(house), ("well",))
            last = len(house)
            self.check_same(house.ended, tuple(range(1, last + 1)))
            for number in range(len(house.store.asks)):
                self.check_same(house.read(number, None), last)
            if store is not None:
                self.assertIsNone(house.lead(store, draw.randrange(len(house.store.asks)), draw.randrange(len(store.writes))))
                self.assertEqual(house.store, store)
                for number in range(len(store.asks)):
                    self.check_same(house.read(number, None), last)
        self.assertEqual(read_journal(journal(house)), house)

    def test_copied_ways(self):
        draw = random.Random(62)
        walks = 0
        for way in drawn_ways(200, 62):
            if copied(way) == ("led",):
                self.walk(draw, way)
                walks += 1
            elif is_sound(way[0]):
                house = House(way[0])
                with self.assertRaises(Exception) as caught:
                    for store in way[1:]:
                        house.lead(store, 0, 0)
                self.assertIn(type(caught.exception).__name__, ("Misses", "Unsound"))
        self.assertGreater(walks, 40)

    def test_passages(self):
        draw = random.Random(63)
        walks = 0
        for one, other, steps in drawn_cases(250, 63):
            found = passage(one, other, steps)
            if found[0] == "passage":
                self.walk(draw, (one,) + tuple(steps[number][0] for number in found[2]) + (other,))
                walks += len(found[2]) > 0
        self.assertGreater(walks, 20)

    def test_stores_of_both(self):
        draw = random.Random(64)
        for one, other in drawn_pairs(120, 64):
            if is_sound(one) and is_sound(other):
                self.walk(draw, by_joint(one, other)[1])

    def test_led_ways_without_giving_again(self):
        """What had ended in an early store is brought in a late one, though nobody gave it again."""
        draw = random.Random(65)
        held = 0
        for way in drawn_ways(200, 65):
            if led(way) != ("led",):
                continue
            house = House(way[0])
            stamp = house.put(draw.randrange(len(way[0].writes)), drawn_record(draw, way[0].shelf))
            for store in way:
                for lot in store.asks:
                    having = tuple(name for name in lot if stamp in house.holds(name))
                    self.assertTrue(brings_back(store.shelf, having))
                    held += 1
        self.assertGreater(held, 50)

    def test_older_writes_hinder(self):
        for way in drawn_ways(80, 66):
            if copied(way) == ("led",) and len(way[0].writes[0]) > 1:
                house = House(way[0])
                house.fall(way[0].writes[0][0])
                house.put(0, "1" * len(way[0].shelf.parts))
                house.rise(way[0].writes[0][0])
                house.undo()
                house.redo()
                # The first step goes, as the write began in the store that stands; what ended is not older then.
                house.lead(way[0], 0, 0)
                if house.ended == ():
                    self.check_raises(Older, 1, house.lead, way[1], 0, 0)
                    house.give(1, way[0].writes[0][0])
                self.assertIsNone(house.lead(way[1], 0, 0))


class TestLosses(Checks, unittest.TestCase):
    def full_house(self, draw, store, many):
        """A house in which all keepers have all stamps."""
        house = House(store)
        for _ in range(many):
            house.put(draw.randrange(len(store.writes)), drawn_record(draw, store.shelf))
        for keeper in store.shelf.circle.names:
            helpers = store.shelf.circle.rest((keeper,))
            house.mend(keeper, helpers)
        return house

    def test_losses_mended_along_plans(self):
        draw = random.Random(67)
        kinds = []
        for store in sound_stores(30):
            names = store.shelf.circle.names
            for lost in all_lots(names):
                house = self.full_house(draw, store, 2)
                if spread(house) != (names, names):
                    continue
                for keeper in lost:
                    house.lose(keeper)
                found = plan(store.shelf, lost)
                kinds.append(found[0])
                if found[0] == "never":
                    self.check_never(house, store, lost, found[1])
                    continue
                for keeper, helpers in found[1]:
                    self.check_same(house.mend(keeper, helpers), (1, 2))
                self.check_same((spread(house), audit(house), cure(house)), ((names, names), ("well",), ()))
                self.assertEqual(after(store, lost), (tuple(range(len(store.writes))), tuple(range(len(store.asks)))))
        self.assertGreater(min(kinds.count("plan"), kinds.count("never")), 10)

    def check_never(self, house, store, lost, mended):
        """However long it is mended, the others get nothing."""
        for _ in lost:
            for keeper, stamps in cure(house):
                house.mend(keeper, tuple(name for name in store.shelf.circle.names if name != keeper))
                self.assertIn(keeper, mended)
        self.check_same(cure(house), ())
        self.check_same(tuple(keeper for keeper in lost if house.holds(keeper) == (0, 1, 2)), mended)
        self.assertGreater(len(lost), most_lost(store))

    def test_pieces_made_anew_are_those_of_the_record(self):
        for house, _ in drawn_houses(60, 68, 10):
            shelf = house.store.shelf
            for stamp, having in enumerate(spread(house), start=1):
                for keeper in shelf.circle.names:
                    helpers = tuple(name for name in having if name != keeper)
                    found = mends(shelf, keeper, helpers)
                    if found[0] == "lost":
                        continue
                    record = house.records[stamp - 1]
                    answers = tuple((name, answer(shelf, name, record)) for name in helpers)
                    self.check_same(made(shelf, keeper, found[1], answers), answer(shelf, keeper, record))
                    self.assertLessEqual(fewest_fetched(shelf, keeper, helpers)[0],
                                         len({spot for spots in found[1] for spot in spots}))

    def test_what_is_let_go_is_as_holders_tell(self):
        for house, _ in drawn_houses(100, 69, 12):
            holding = spread(house)
            if not 1 <= len(holding) <= 6 or house.down:
                continue
            safe = safe_below(house.store, holding)
            brought = [brought_by(house.store, holding, number) for number in range(len(house.store.asks))]
            for stamp in range(1, safe + 1):
                other = house.copy()
                other.let_go(stamp)
                self.check_same(spread(other), let_go(house.store, holding, stamp))
                self.check_same([other.read(number, None) for number in range(len(brought))], brought)


class TestChanges(Checks, unittest.TestCase):
    def freest_offers(self, draw, store):
        """At most four offers of lots that serve those of the store."""
        writes, asks = freed(store)
        every = [("write", lot) for lot in writes if lot and lot not in store.writes] + [("ask",
                                                                                          lot) for lot in asks
                                                                                         if lot not in store.asks]
        return tuple(offer + (draw.randint(1, 9),) for offer in draw.sample(every, min(4, len(every))))

    def test_led_to_by_the_cheapest_choice(self):
        """Offers of lots alone leave the shelf as it is, so the store by the choice can be led to if it is across."""
        draw = random.Random(70)
        leads = 0
        for store in [store for store in drawn_stores(400) if is_sound(store)]:
            offers = self.freest_offers(draw, store)
            if not offers:
                continue
            least = min(len(lot) for lot in freed(store)[1])
            found = cheapest(store, offers, (("sound",), ("askers", least)))
            if found[0] == "none":
                continue
            other = by_choice(store, offers, found[2])
            house = House(store)
            house.put(0, drawn_record(draw, store.shelf))
            if across(store, other)[0] == "misses":
                with self.assertRaises(Misses):
                    house.lead(other, 0, 0)
                continue
            house.lead(other, 0, 0)
            leads += found[2] != ()
            self.check_same([house.read(number, None) for number in range(len(other.asks))], [1] * len(other.asks))
            self.assertEqual(min(len(lot) for lot in other.asks), least)
        self.assertGreater(leads, 3)

    def test_a_store_that_stands_a_fall(self):
        """Three of four keepers each time: who is asked, and who is given, may be chosen around whoever is down."""
        lots = tuple(lot for lot in all_lots("abcd") if len(lot) == 3)
        store = store_of(SHELF, lots[:3], lots[1:])
        self.check_same((most_stood(store), sound(store)[0]), (0, "sound"))
        offers = (("write", lots[3], 3), ("ask", lots[0], 2), ("write", ("a", "b", "c", "d"), 1))
        found = cheapest(store, offers, (("sound",), ("stands", 1)))
        self.check_same(found[:3], ("choice", 5, (0, 1)))
        other = by_choice(store, offers, found[2])
        for keeper in "abcd":
            house = House(store)
            house.put(0, "10")
            house.lead(other, 0, 0)
            house.fall(keeper)
            write, ask = [left(other, (keeper,))[kind][0] for kind in (0, 1)]
            self.check_same((house.put(write, "01"), house.read(ask, None), house.ended, audit(house)),
                            (2, 2, (1, 2), ("well",)))

    def test_keepers_that_come_and_go(self):
        for store in sound_stores(60):
            if len(store.shelf.circle) == 6:
                continue
            wider = with_keeper(store, "new", ((store.shelf.parts[0],),))
            self.assertEqual(sound(wider)[0], "sound")
            house = House(wider)
            house.put(0, "1" * len(store.shelf.parts))
            self.check_same(house.mend("new", wider.writes[0]), (1,))
            self.check_same(still(wider, "new"), ("sound",))
            self.assertEqual(without_keeper(wider, "new"), store)


if __name__ == "__main__":
    unittest.main()
