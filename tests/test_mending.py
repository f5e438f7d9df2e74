import unittest
from itertools import product
from random import Random

from mirrorwood.halls import card_of
from mirrorwood.home import bars, way_home
from mirrorwood.mending import least_laid, shows_laid
from things import (FOUR, LETTERS, ODD_THINGS, OwnAnswers, all_halls, big_halls, fits_by_words, halls_by_arrows,
                    hangs_by_words, small_halls, some_halls, some_prices, star, subsets, tables_like, ways_by_trying,
                    woods)

BARE = (7, (), ())
# a is the root of a - b - c, d of d alone; b's card fits a and c together, c's fits nobody, a's and d's fit no set
HALL = (5, (("a", 0, 3), ("b", 1, 4), ("c", 1, 0), ("d", 0, 1)), (("a", "b", 1), ("b", "c", 2)))
PRICES = [("d", 7), ("b", 3), ("a", 4), ("c", 1)]


def shows_by_words(hall, prices, price, thing):
    """shows_laid by the words of the document."""
    names = [place[0] for place in hall[1]]
    if type(thing) is not list or [type(row) for row in thing] != [tuple] * len(names):
        return False
    if [len(row) for row in thing] != [3] * len(names) or [row[0] for row in thing] != names:
        return False
    if {type(part) for row in thing for part in row[1:]} - {int}:
        return False
    hangs = hangs_by_words(hall)
    costs = dict(prices)
    outs = {name: out for name, out, into in thing}
    ins = {name: into for name, out, into in thing}
    for name in names:
        hung = [other for other in names if hangs[other] == name]
        for some in subsets(hung):
            found = sum(outs[other] for other in some) + sum(ins[other] for other in hung if other not in some)
            if found + (0 if fits_by_words(hall, name, some) else costs[name]) < outs[name]:
                return False
            if hangs[name] is not None:
                if found + (0 if fits_by_words(hall, name, (*some, hangs[name])) else costs[name]) < ins[name]:
                    return False
    return price <= sum(outs[name] for name in names if hangs[name] is None)


def homes(wheel, names, ties, numbers):
    """The places of all halls of these ties and numbers that have a way home."""
    rows = product(product((0, 1), numbers), repeat=len(names))
    every = [tuple((name, *card) for name, card in zip(names, row)) for row in rows]
    return [places for places in every if ways_by_trying((wheel, places, ties))]


def least_by_trying(places, prices, found):
    costs = dict(prices)
    return min(sum(costs[one[0]] for one, two in zip(places, other) if one != two) for other in found)


class LeastLaid(unittest.TestCase):
    def checked(self, hall, prices):
        """The price that is told, behind a look at what it's told with."""
        told = least_laid(hall, prices)
        self.assertIsInstance(told, tuple)
        price, other, table = told
        self.assertIs(type(price), int)
        self.assertEqual((other[0], other[2]), (hall[0], hall[2]))
        self.assertEqual([place[0] for place in other[1]], [place[0] for place in hall[1]])
        self.assertEqual(bars(other), [])
        changed = [one[0] for one, two in zip(hall[1], other[1]) if one != two]
        self.assertEqual(sum(dict(prices)[name] for name in changed), price)
        self.assertIs(shows_laid(hall, prices, price, table), True, (hall, prices))
        self.assertIs(shows_laid(hall, prices, price + 1, table), False)
        self.assertIs(shows_by_words(hall, prices, price, table), True)
        return price

    def test_told(self):
        price, other, table = least_laid(HALL, PRICES)
        self.assertEqual(price, self.checked(HALL, PRICES))
        self.assertEqual(price, 4 + 7)
        self.assertEqual((card_of(other, "a"), card_of(other, "d")), ((1, 0), (1, 0)))
        self.assertEqual(other[1][1:3], HALL[1][1:3])
        self.assertEqual([row[0] for row in table], ["a", "b", "c", "d"])

    def test_against_all_cards_of_small_halls(self):
        chance = Random(113)
        for names, wheel, step in [(FOUR[:1], 3, 1), (FOUR[:2], 3, 3), (FOUR[:3], 2, 3), (FOUR[:3], 3, 11), (FOUR, 1, 1),
                                   (FOUR, 2, 19)]:
            numbers = range(wheel)
            for pairs in woods(names):
                every = list(product(numbers, repeat=len(pairs)))
                for mirrors in every[::step if len(every) > 3 * step else 1]:
                    ties = tuple((*pair, mirror) for pair, mirror in zip(pairs, mirrors))
                    found = homes(wheel, names, ties, numbers)
                    self.all_places(wheel, names, ties, numbers, found, chance)

    def all_places(self, wheel, names, ties, numbers, found, chance):
        every = [tuple((name, *card) for name, card in zip(names, row))
                 for row in product(product((0, 1), numbers), repeat=len(names))]
        for places in chance.sample(every, min(len(every), 12)):
            hall = (wheel, places, ties)
            prices = some_prices(chance, hall)
            self.assertEqual(self.checked(hall, prices), least_by_trying(places, prices, found), (hall, prices))

    def test_without_a_wheel(self):
        chance = Random(127)
        for pairs in woods(FOUR[:3]):
            for mirrors in product((-1, 0, 2), repeat=len(pairs)):
                ties = tuple((*pair, mirror) for pair, mirror in zip(pairs, mirrors))
                # No number of a hall with a way home is beyond the mirrors of two ties together.
                found = homes(0, FOUR[:3], ties, range(-4, 5))
                self.all_places(0, FOUR[:3], ties, (-3, -1, 0, 1, 2), found, chance)

    def test_nothing_where_there_is_a_way(self):
        for hall in [*[hall for hall in small_halls(29) if way_home(hall) is not None], *halls_by_arrows(131, 20, (9, 24))]:
            prices = [(place[0], 1) for place in hall[1]]
            self.assertEqual(least_laid(hall, prices)[:2], (0, hall))

    def test_something_where_there_is_none(self):
        for hall in small_halls(29):
            if way_home(hall) is None:
                self.assertGreater(self.checked(hall, [(place[0], 1) for place in hall[1]]), 0)
                self.assertEqual(self.checked(hall, [(place[0], 0) for place in hall[1]]), 0)
                self.assertGreaterEqual(self.checked(hall, tuple((place[0], 1000000) for place in hall[1])), 1000000)

    def test_prices_in_any_order_and_in_a_tuple(self):
        for prices in (PRICES, PRICES[::-1], sorted(PRICES), tuple(PRICES), tuple(sorted(PRICES))):
            self.assertEqual(least_laid(HALL, prices), least_laid(HALL, PRICES))

    def test_the_prices_tell_which_card(self):
        # one of two light neighbours must be dark
        hall = (1, (("a", 1, 0), ("b", 1, 0)), (("a", "b", 0),))
        self.assertEqual(least_laid(hall, [("a", 3), ("b", 2)])[:2], (2, (1, (("a", 1, 0), ("b", 0, 0)), hall[2])))
        self.assertEqual(least_laid(hall, [("a", 2), ("b", 3)])[:2], (2, (1, (("a", 0, 0), ("b", 1, 0)), hall[2])))
        self.assertEqual(least_laid(hall, [("a", 0), ("b", 3)])[0], 0)

    def test_without_places(self):
        for wheel in (0, 1, 60):
            self.assertEqual(least_laid((wheel, (), ()), []), (0, (wheel, (), ()), []))
            self.assertEqual(least_laid((wheel, (), ()), ()), (0, (wheel, (), ()), []))

    def test_halls_of_24_places(self):
        chance = Random(137)
        found = []
        for hall in big_halls():
            found.append(self.checked(hall, some_prices(chance, hall)))
            self.assertLessEqual(self.checked(hall, [(place[0], 1) for place in hall[1]]), 24)
        self.assertGreater(max(found), 1000000)
        self.assertIn(0, found)

    def test_halls_of_24_places_with_few_cards_laid_anew(self):
        chance = Random(139)
        for hall in halls_by_arrows(149, 30, (24,)):
            names = chance.sample([place[0] for place in hall[1]], 3)
            places = tuple((name, 1 - face if name in names else face, number) for name, face, number in hall[1])
            prices = some_prices(chance, hall)
            price = self.checked((hall[0], places, hall[2]), prices)
            self.assertLessEqual(price, sum(dict(prices)[name] for name in names))

    def test_stars_and_roads(self):
        chance = Random(151)
        for number in range(5):
            hall = star(0, number, [1, 2, 4, 8, 16, 32])
            self.assertEqual(self.checked(hall, [(name, 5) for name in "abcxyzm"]), 5)
            self.checked(hall, some_prices(chance, hall))
        road = (0, tuple((name, 1, 1) for name in LETTERS), tuple((*pair, 2) for pair in zip(LETTERS, LETTERS[1:])))
        self.checked(road, some_prices(chance, road))

    def test_all_cards_light_without_ties(self):
        hall = (0, tuple((name, 1, at % 2) for at, name in enumerate(LETTERS)), ())
        self.assertEqual(self.checked(hall, [(name, at) for at, name in enumerate(LETTERS)]), sum(range(1, 24, 2)))


class ShowsLaid(unittest.TestCase):
    def same(self, hall, prices, price, thing):
        told = shows_laid(hall, prices, price, thing)
        self.assertIs(told, shows_by_words(hall, prices, price, thing), (hall, prices, price, thing))
        return told

    def halls(self):
        yield HALL
        yield BARE
        yield star(5, 2, (1, 2, 3, 4))
        yield from (hall for at, hall in enumerate(small_halls(7)) if at % 211 == 0)
        yield from (hall for hall, row in some_halls(157, 8, (4, 5)))

    def test_the_told_table_with_the_price_less_and_more(self):
        for hall in self.halls():
            prices = some_prices(Random(163), hall)
            price, other, table = least_laid(hall, prices)
            for less in (0, 1, 2, price, price + 1, 10 ** 30):
                self.assertIs(shows_laid(hall, prices, price - less, table), True)
                self.assertIs(shows_laid(hall, tuple(prices), price - less, table), True)
            for more in (1, 2, 10 ** 30):
                self.assertIs(shows_laid(hall, prices, price + more, table), False)

    def test_tables_with_one_thing_another(self):
        found = []
        chance = Random(167)
        for hall in self.halls():
            prices = some_prices(chance, hall)
            price, other, table = least_laid(hall, prices)
            for like, written in tables_like(table, lambda part: (part + 1, part - 1, -part, 10 ** 30, -10 ** 30)):
                told = self.same(hall, prices, price, like)
                self.assertIs(self.same(hall, prices, price - 10 ** 40, like) and not written, False)
                found.append(told)
            for at, row in enumerate(table):
                for nothing in ((row[0], None, row[2]), (row[0], row[1], None), (row[0], None, None)):
                    self.assertIs(self.same(hall, prices, -1, table[:at] + [nothing] + table[at + 1:]), False)
        self.assertGreater(found.count(True), 50)
        self.assertGreater(found.count(False), 1000)

    def test_rows_exchanged(self):
        price, other, table = least_laid(HALL, PRICES)
        for one in range(4):
            for two in range(one):
                rows = list(table)
                rows[one], rows[two] = rows[two], rows[one]
                self.assertIs(shows_laid(HALL, PRICES, -1000, rows), False)
        self.assertIs(shows_laid(HALL, PRICES, -1000, table[::-1]), False)

    def test_tables_of_noughts(self):
        for hall in self.halls():
            table = [(place[0], 0, 0) for place in hall[1]]
            prices = some_prices(Random(173), hall)
            for price in (0, -1, -10 ** 30):
                self.assertIs(shows_laid(hall, prices, price, table), True)
            self.assertIs(shows_laid(hall, prices, 1, table), False)

    def test_true_for_1_and_false_for_0(self):
        hall = (1, (("a", 0, 0), ("b", 0, 0)), (("a", "b", 0),))
        prices = [("a", 1), ("b", 1)]
        self.assertIs(shows_laid(hall, prices, 1, [("a", 1, 0), ("b", 1, 0)]), True)
        for part in (True, False):
            for at in range(4):
                parts = [1, 0, 1, 0]
                parts[at] = part
                self.assertIs(shows_laid(hall, prices, -5, [("a", *parts[:2]), ("b", *parts[2:])]), False)

    def test_a_root_s_in_is_any_number(self):
        price, other, table = least_laid(HALL, PRICES)
        for into in (0, -5, 5, 10 ** 30, -10 ** 30):
            rows = [(name, out, into) if name in "ad" else (name, out, other) for name, out, other in table]
            self.assertIs(shows_laid(HALL, PRICES, price, rows), True)
            rows = [(name, out, into) if name == "b" else (name, out, other) for name, out, other in table]
            self.assertIs(self.same(HALL, PRICES, price, rows), into == 0)
        for into in (None, True, "0", [], ()):
            rows = [(name, out, into) if name == "a" else (name, out, other) for name, out, other in table]
            self.assertIs(shows_laid(HALL, PRICES, price, rows), False)

    def test_tables_by_chance_against_the_words(self):
        chance = Random(179)
        found = []
        for hall in [*self.halls(), *[hall for hall, row in some_halls(181, 60, (3, 4, 5))]]:
            prices = [(place[0], chance.choice((0, 1, 2))) for place in hall[1]]
            price, other, table = least_laid(hall, prices)
            for turn in range(20):
                rows = [(name, out + chance.choice((0, 0, 0, -1, 1)), into + chance.choice((0, 0, 0, -1, 1)))
                        for name, out, into in table]
                for asked in (price - 1, price, price + 1):
                    found.append(self.same(hall, prices, asked, rows))
                    # what is shown is so
                    self.assertFalse(found[-1] and asked > price)
        self.assertGreater(found.count(True), 100)
        self.assertGreater(found.count(False), 100)

    def test_every_table_of_few_numbers(self):
        found = []
        for hall in list(all_halls(["a", "b"], 2, (0, 1)))[::5]:
            for a, b, c, d in product((-1, 0, 1, 2), repeat=4):
                found.append(self.same(hall, [("b", 1), ("a", 2)], 1, [("a", a, b), ("b", c, d)]))
        self.assertGreater(found.count(True), 50)
        self.assertGreater(found.count(False), 1000)

    def test_things_of_every_kind(self):
        for hall in (HALL, BARE):
            for thing in ODD_THINGS:
                for other in (thing, [thing], (thing,), [thing] * 4, [("a", 0, thing)], [("a", thing, 0)]):
                    wanted = hall == BARE and type(other) is list and other == []
                    self.assertIs(shows_laid(hall, PRICES if hall == HALL else [], 0, other), wanted)

    def test_without_places(self):
        self.assertIs(shows_laid(BARE, [], 0, []), True)
        self.assertIs(shows_laid(BARE, (), -1, []), True)
        self.assertIs(shows_laid(BARE, [], 1, []), False)
        self.assertIs(shows_laid(BARE, [], 0, ()), False)


class Told(OwnAnswers, unittest.TestCase):
    TABLE = least_laid(HALL, PRICES)[2]
    ASKS = [(least_laid, (HALL, PRICES)), (least_laid, (HALL, tuple(PRICES))), (least_laid, (BARE, [])),
            (shows_laid, (HALL, PRICES, 11, TABLE)), (shows_laid, (HALL, PRICES, 12, TABLE))]
    NAMES = {"least_laid": "hall prices", "shows_laid": "hall prices price thing"}


if __name__ == "__main__":
    unittest.main()
