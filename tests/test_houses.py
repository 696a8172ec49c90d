"""[40] to [42]: houses that tell one another their deeds."""

import copy
import itertools
import random
import unittest

from plain_model import plain_meets
from timegranary.errors import Clash, NoHouse, NoWish
from timegranary.houses import House, alike, store_of
from timegranary.labels import Labels
from timegranary.store import Store

A = Labels({"a": "1"})
B = Labels({"b": "1"})
SERIES = [Labels(), A, B, Labels({"a": "2", "b": "1"})]
WISHES = [[], [("has", "a")], [("is", "b", "1")], [("lacks", "b")], [("oneof", "a", ())]]


def plain_points(deeds):
    """By labels' pairs and times the worths that are seen, by just the words of the document."""
    seen = {}
    puts = [deed for deed in deeds if deed[0] == "put"]
    strikes = [deed for deed in deeds if deed[0] == "strike"]
    for word, stamp, labels, time, worth in puts:
        later = [put for put in puts if put[2] == labels and put[3] == time and put[1] > stamp]
        struck = [
            strike for strike in strikes
            if strike[1] > stamp and plain_meets(labels.pairs, strike[2]) and strike[3] <= time < strike[4]
        ]
        if not later and not struck:
            seen[labels.pairs, time] = worth
    return seen


def plain_changes(ahead, behind):
    keys = [key for key in sorted({**ahead, **behind}) if ahead.get(key) != behind.get(key)]
    return [(Labels(pairs), time, ahead.get((pairs, time)), behind.get((pairs, time))) for pairs, time in keys]


def table_of(house):
    return {(labels.pairs, time): worth for labels in house.series() for time, worth in house.points(labels)}


class Making(unittest.TestCase):
    def test_names(self):
        for name in ("a", "0", "z9" * 10):
            self.assertEqual(House(name).name, name)
        for name in ("", "A", "a b", "a" * 21, "a\n", "-", None, 5, True, ("a",), ["a"], b"a", {"a": 1}):
            with self.assertRaises(NoHouse) as caught:
                House(name)
            self.assertEqual(caught.exception.at, name)

    def test_a_new_house(self):
        house = House("a")
        self.assertEqual((house.series(), house.stamps(), house.letter([]), house.points(A)), ([], [], [], []))
        self.assertTrue(alike(house, House("b")))


class OwnDeeds(unittest.TestCase):
    def test_put(self):
        house = House("h")
        self.assertEqual(house.put(A, 5, 7), (("put", (1, "h"), A, 5, 7), [(A, 5, None, 7)]))
        self.assertEqual(house.put(A, 5, 8), (("put", (2, "h"), A, 5, 8), [(A, 5, 7, 8)]))
        self.assertEqual(house.put(labels=A, time=5, worth=8), (("put", (3, "h"), A, 5, 8), []))
        self.assertEqual(house.put(A, -5, 0), (("put", (4, "h"), A, -5, 0), [(A, -5, None, 0)]))
        self.assertEqual(house.points(A), [(-5, 0), (5, 8)])
        self.assertEqual(house.points(B), [])

    def test_strike(self):
        house = House("h")
        house.put(B, 5, 1)
        house.put(A, 6, 2)
        house.put(A, 5, 3)
        house.put(Labels(), 5, 0)
        self.assertEqual(
            house.strike([("has", "a")], 0, 9), (("strike", (5, "h"), [("has", "a")], 0, 9), [(A, 5, 3, None), (A, 6, 2, None)])
        )
        self.assertEqual(house.strike([], 9, 0), (("strike", (6, "h"), [], 9, 0), []))
        self.assertEqual(
            house.strike(wishes=[], start=5, end=6)[1], [(Labels(), 5, 0, None), (B, 5, 1, None)]
        )
        self.assertEqual(house.series(), [Labels(), A, B])
        self.assertEqual(house.put(A, 5, 4)[1], [(A, 5, None, 4)])
        self.assertEqual(house.stamps(), [(at, "h") for at in range(1, 9)])

    def test_strike_refused(self):
        house = House("h")
        house.put(A, 5, 1)
        with self.assertRaises(NoWish) as caught:
            house.strike([("has", "a"), ("has", "")], 0, 9)
        self.assertEqual(caught.exception.at, 1)
        self.assertEqual(house.stamps(), [(1, "h")])
        self.assertEqual(house.put(A, 6, 1)[0][1], (2, "h"))

    def test_clocks_go_on_from_the_greatest_heard(self):
        house = House("h")
        house.hear(("put", (41, "other"), A, 5, 1))
        house.hear(("strike", (7, "zzz"), [], 0, 1))
        self.assertEqual(house.put(A, 6, 1)[0][1], (42, "h"))
        house.hear(("strike", (99, "other"), [], 0, 1))
        self.assertEqual(house.strike([], 0, 1)[0][1], (100, "h"))

    def test_lists_are_the_askers(self):
        house = House("h")
        wishes = [("has", "a")]
        deed, changes = house.strike(wishes, 0, 9)
        wishes.clear()
        deed[2].clear()
        changes.append(1)
        self.assertEqual(house.letter([])[0][2], [("has", "a")])
        house.letter([])[0][2].clear()
        house.letter([]).clear()
        self.assertEqual(house.letter([]), [("strike", (1, "h"), [("has", "a")], 0, 9)])
        heard = ("strike", (5, "x"), [("has", "b")], 0, 9)
        house.hear(heard)
        heard[2].clear()
        self.assertEqual(house.letter([(1, "h")]), [("strike", (5, "x"), [("has", "b")], 0, 9)])
        for action in (house.stamps, house.series, lambda: house.points(A)):
            ahead = copy.deepcopy(action())
            action().clear()
            self.assertEqual(action(), ahead)


class Hearing(unittest.TestCase):
    def test_late_and_twice(self):
        house = House("h")
        late = ("put", (1, "a"), A, 5, 1)
        self.assertEqual(house.hear(("put", (2, "a"), A, 5, 2)), [(A, 5, None, 2)])
        self.assertEqual(house.hear(late), [])
        self.assertEqual(house.hear(late), [])
        self.assertEqual(house.points(A), [(5, 2)])
        self.assertEqual(house.stamps(), [(1, "a"), (2, "a")])

    def test_stamps_of_one_clock_go_by_the_names(self):
        house = House("h")
        house.hear(("put", (1, "b"), A, 5, 2))
        self.assertEqual(house.hear(("put", (1, "a"), A, 5, 1)), [])
        self.assertEqual(house.hear(("put", (1, "c"), A, 5, 3)), [(A, 5, 2, 3)])

    def test_a_put_heard_behind_its_strike(self):
        house = House("h")
        house.hear(("strike", (5, "a"), [("has", "a")], 0, 9))
        self.assertEqual(house.hear(("put", (4, "a"), A, 5, 1)), [])
        self.assertEqual(house.points(A), [])
        self.assertEqual(house.series(), [A])
        self.assertEqual(house.hear(("put", (6, "a"), A, 5, 2)), [(A, 5, None, 2)])
        self.assertEqual(house.hear(("put", (4, "b"), A, 9, 3)), [(A, 9, None, 3)])
        self.assertEqual(house.hear(("put", (4, "c"), B, 5, 3)), [(B, 5, None, 3)])

    def test_a_struck_put_does_not_show_the_one_below_it(self):
        house = House("h")
        house.hear(("put", (1, "a"), A, 5, 1))
        house.hear(("put", (3, "a"), A, 5, 3))
        house.hear(("strike", (4, "a"), [], 0, 9))
        self.assertEqual(house.points(A), [])
        # A strike between two puts takes nothing that is seen.
        self.assertEqual(house.hear(("put", (5, "a"), A, 5, 5)), [(A, 5, None, 5)])
        self.assertEqual(house.hear(("strike", (4, "b"), [], 0, 9)), [])

    def test_a_greater_put_that_was_struck_already(self):
        house = House("h")
        house.hear(("put", (1, "a"), A, 5, 1))
        house.hear(("strike", (9, "a"), [("is", "a", "1")], 6, 9))
        self.assertEqual(house.hear(("strike", (4, "a"), [], 5, 6)), [(A, 5, 1, None)])
        self.assertEqual(house.hear(("put", (3, "a"), A, 5, 3)), [])

    def test_its_own_name_whoever_made_it(self):
        house = House("h")
        self.assertEqual(house.hear(("put", (3, "h"), A, 5, 1)), [(A, 5, None, 1)])
        self.assertEqual(house.put(A, 5, 2)[0][1], (4, "h"))

    def test_clash(self):
        house = House("h")
        house.hear(("put", (3, "a"), A, 5, 1))
        house.hear(("strike", (4, "a"), [("has", "b")], 0, 9))
        ahead = (house.stamps(), house.letter([]), house.points(A), house.series())
        for deed in (
            ("put", (3, "a"), A, 5, 2), ("put", (3, "a"), A, 6, 1), ("put", (3, "a"), B, 5, 1), ("strike", (3, "a"), [], 5, 1),
            ("put", (4, "a"), A, 0, 9), ("strike", (4, "a"), [], 0, 9), ("strike", (4, "a"), [("has", "b")], 0, 8),
            ("strike", (4, "a"), [("has", "b"), ("has", "b")], 0, 9),
        ):
            with self.assertRaises(Clash) as caught:
                house.hear(deed)
            self.assertEqual(caught.exception.stamp, deed[1])
            self.assertEqual((house.stamps(), house.letter([]), house.points(A), house.series()), ahead)
        self.assertEqual(house.hear(("put", (3, "a"), Labels({"a": "1"}), 5, 1)), [])
        self.assertEqual(house.hear(("strike", (4, "a"), [("has", "b")], 0, 9)), [])

    def test_no_wish_ahead_of_a_clash(self):
        house = House("h")
        house.hear(("put", (3, "a"), A, 5, 1))
        for clock in (3, 9):
            with self.assertRaises(NoWish) as caught:
                house.hear(("strike", (clock, "a"), [("has", "b"), None], 0, 9))
            self.assertEqual(caught.exception.at, 1)
        self.assertEqual(house.stamps(), [(3, "a")])
        self.assertEqual(house.put(A, 5, 1)[0][1], (4, "h"))

    def test_every_order_of_hearing(self):
        deeds = [
            ("put", (1, "a"), A, 5, 1), ("put", (2, "a"), A, 5, 2), ("strike", (2, "b"), [("has", "a")], 0, 9),
            ("put", (1, "b"), B, 5, 3), ("put", (3, "a"), A, 6, 4), ("strike", (1, "c"), [], 5, 6),
        ]
        for order in itertools.permutations(deeds):
            house = House("h")
            heard = []
            for deed in order:
                ahead = plain_points(heard)
                heard.append(deed)
                self.assertEqual(house.hear(deed), plain_changes(ahead, plain_points(heard)))
            self.assertEqual(table_of(house), plain_points(deeds))
            self.assertEqual(house.series(), [A, B])


class Letters(unittest.TestCase):
    def test_letters(self):
        house = House("h")
        one = house.put(A, 5, 1)[0]
        two = house.strike([("has", "a")], 0, 9)[0]
        zero = ("put", (1, "a"), B, 5, 1)
        house.hear(zero)
        self.assertEqual(house.letter([]), [zero, one, two])
        self.assertEqual(house.letter([(1, "h")]), [zero, two])
        self.assertEqual(house.letter([(2, "h"), (1, "a"), (1, "h"), (2, "h")]), [])
        self.assertEqual(house.letter([(7, "zz"), (1, "a")]), [one, two])
        self.assertEqual(house.letter(stamps=house.stamps()), [])

    def test_alike(self):
        one = House("one")
        two = House("two")
        deed = one.put(A, 5, 1)[0]
        self.assertIs(alike(one, two), False)
        two.hear(deed)
        self.assertIs(alike(one, two), True)
        two.strike([], 0, 1)
        self.assertIs(alike(one, two), False)
        three = House("three")
        three.hear(("put", (1, "one"), A, 5, 2))
        self.assertIs(alike(one, three), False)
        self.assertIs(alike(one, one), True)

    def test_houses_that_heard_all_letters(self):
        chance = random.Random(9)
        for turn in range(25):
            houses = [House(name) for name in ("one", "two", "three")]
            for step in range(40):
                house = chance.choice(houses)
                ahead = plain_points(house.letter([]))
                draw = chance.random()
                if draw < 0.5:
                    told = house.put(chance.choice(SERIES), chance.randint(0, 5), chance.randint(-2, 2))[1]
                elif draw < 0.7:
                    start = chance.randint(-1, 5)
                    told = house.strike(chance.choice(WISHES), start, start + chance.randint(-1, 4))[1]
                else:
                    other = chance.choice(houses)
                    letter = other.letter(house.stamps() if draw < 0.85 else [])
                    if not letter:
                        continue
                    told = house.hear(chance.choice(letter))
                self.assertEqual(told, plain_changes(ahead, plain_points(house.letter([]))))
                self.assertEqual(table_of(house), plain_points(house.letter([])))
            for house, other in itertools.permutations(houses, 2):
                deeds = other.letter(house.stamps())
                chance.shuffle(deeds)
                for deed in deeds:
                    house.hear(deed)
            for house, other in itertools.permutations(houses, 2):
                for deed in other.letter(house.stamps()):
                    house.hear(deed)
                self.assertTrue(alike(house, other))
                self.assertEqual(table_of(house), table_of(other))
                self.assertEqual((house.stamps(), house.series()), (other.stamps(), other.series()))
            self.look_at_store(houses[0])

    def look_at_store(self, house):
        store = store_of(house)
        self.assertIsInstance(store, Store)
        deeds = house.letter([])
        self.assertEqual(store.number, len(deeds))
        for number in range(len(deeds) + 1):
            part = House("part")
            for deed in deeds[:number]:
                part.hear(deed)
            told = [(labels, part.points(labels)) for labels in part.series() if part.points(labels)]
            self.assertEqual(store.points([], -99, 99, number=number), told)
            self.assertEqual(store.found([], number=number), part.series())

    def test_store_of_widths_and_keeps(self):
        house = House("h")
        house.put(A, 5, 1)
        store = store_of(house, widths=(10,), keeps=(0, 0))
        self.assertEqual(store.expire(20), (20, 20))
        self.assertEqual(store_of(house).expire(20), (None, None, None))
        self.assertEqual(store_of(House("e")).number, 0)
        self.assertEqual(store.lines().split("\n")[0][:10], "1. 12 put ")


if __name__ == "__main__":
    unittest.main()
