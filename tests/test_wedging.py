import unittest
from itertools import product
from random import Random

from mirrorwood.halls import is_hall
from mirrorwood.home import bars, way_home
from mirrorwood.wedging import least_wedged, shows_wedged, without
from things import (LETTERS, ODD_THINGS, OwnAnswers, all_halls, big_halls, fits_by_words, halls_by_arrows,
                    hangs_by_words, small_halls, some_halls, some_prices, star, subsets, tables_like, ways_by_trying)

BARE = (7, (), ())
# a is the root of a - b - c, d of d alone; b's card fits a and c together, c's fits nobody, a's and d's fit no set
HALL = (5, (("a", 0, 3), ("b", 1, 4), ("c", 1, 0), ("d", 0, 1)), (("a", "b", 1), ("b", "c", 2)))
PRICES = [("d", 7), ("b", 3), ("a", 4), ("c", 1)]
ABOVE_ALL = float("inf")


def as_number(part):
    return ABOVE_ALL if part is None else part


def shows_by_words(hall, prices, price, thing):
    """shows_wedged by the words of the document, with a number above all others for None."""
    names = [place[0] for place in hall[1]]
    if type(thing) is not list or [type(row) for row in thing] != [tuple] * len(names):
        return False
    if [len(row) for row in thing] != [4] * len(names) or [row[0] for row in thing] != names:
        return False
    if {type(part) for row in thing for part in row[1:]} - {int, type(None)}:
        return False
    hangs = hangs_by_words(hall)
    costs = dict(prices)
    outs, ins, cuts = ({row[0]: as_number(row[at]) for row in thing} for at in (1, 2, 3))
    for name in names:
        hung = [other for other in names if hangs[other] == name]
        for some in subsets(hung):
            found = sum(outs[other] if other in some else min(ins[other], cuts[other]) for other in hung)
            if fits_by_words(hall, name, some) and found < outs[name]:
                return False
            if hangs[name] is not None and fits_by_words(hall, name, (*some, hangs[name])) and found < ins[name]:
                return False
        if costs[name] + sum(min(outs[other], cuts[other]) for other in hung) < cuts[name]:
            return False
    return price <= sum(min(outs[name], cuts[name]) for name in names if hangs[name] is None)


def least_by_trying(hall, prices):
    costs = dict(prices)
    sets = [some for some in subsets(sorted(costs)) if ways_by_trying(taken_out(hall, some))]
    return min(sum(costs[name] for name in some) for some in sets)


def taken_out(hall, names):
    return (hall[0], tuple(place for place in hall[1] if place[0] not in names),
            tuple(tie for tie in hall[2] if not {*tie[:2]} & {*names}))


class Without(unittest.TestCase):
    def test_nobody_and_all(self):
        self.assertEqual(without(HALL, []), HALL)
        self.assertEqual(without(HALL, ["a", "b", "c", "d"]), (5, (), ()))
        self.assertEqual(without(BARE, []), BARE)

    def test_no_card_is_mirrored(self):
        self.assertEqual(without(HALL, ["b"]), (5, (("a", 0, 3), ("c", 1, 0), ("d", 0, 1)), ()))
        self.assertEqual(without(HALL, ["c"]), (5, (("a", 0, 3), ("b", 1, 4), ("d", 0, 1)), (("a", "b", 1),)))
        self.assertEqual(without(HALL, ["d"]), (5, HALL[1][:3], HALL[2]))

    def test_names_of_several_pieces_in_any_order(self):
        wanted = (5, (("b", 1, 4), ("c", 1, 0)), (("b", "c", 2),))
        for names in (["a", "d"], ["d", "a"], ("a", "d"), ("d", "a")):
            self.assertEqual(without(HALL, names), wanted)

    def test_all_sets_of_small_halls(self):
        for hall in list(small_halls(101))[::17]:
            for some in subsets([place[0] for place in hall[1]]):
                told = without(hall, list(some))
                self.assertEqual(told, taken_out(hall, some))
                self.assertEqual(without(hall, some), told)
                self.assertIs(is_hall(told), True)

    def test_a_name_that_begins_as_another_one(self):
        hall = (0, (("a", 1, 0), ("aa", 0, 0), ("b", 1, 0)), (("a", "aa", 0), ("aa", "b", 0)))
        self.assertEqual(without(hall, ["a"]), (0, hall[1][1:], hall[2][1:]))
        self.assertEqual(without(hall, ["aa"]), (0, (hall[1][0], hall[1][2]), ()))


class LeastWedged(unittest.TestCase):
    def checked(self, hall, prices):
        """The price that is told, behind a look at what it's told with."""
        told = least_wedged(hall, prices)
        self.assertIsInstance(told, tuple)
        price, names, table = told
        self.assertIs(type(price), int)
        self.assertIs(type(names), list)
        self.assertEqual(names, sorted(set(names)))
        self.assertEqual(sum(dict(prices)[name] for name in names), price)
        self.assertEqual(bars(taken_out(hall, names)), [], (hall, prices))
        self.assertIs(shows_wedged(hall, prices, price, table), True, (hall, prices))
        self.assertIs(shows_wedged(hall, prices, price + 1, table), False)
        self.assertIs(shows_by_words(hall, prices, price, table), True)
        return price

    def test_told(self):
        # with a and d wedged b would have to fit nobody or c: so it's wedged, too; with b and d wedged a can't stay
        price, names, table = least_wedged(HALL, PRICES)
        self.assertEqual((price, names), (4 + 3 + 7, ["a", "b", "d"]))
        self.assertEqual([row[0] for row in table], ["a", "b", "c", "d"])
        self.assertEqual(self.checked(HALL, PRICES), 14)

    def test_against_all_sets_of_small_halls(self):
        chance = Random(193)
        for hall in small_halls(17):
            prices = some_prices(chance, hall)
            self.assertEqual(self.checked(hall, prices), least_by_trying(hall, prices), (hall, prices))

    def test_against_all_sets_of_halls_of_five_to_seven_places(self):
        chance = Random(197)
        halls = [hall for hall, row in some_halls(199, 40, (5, 6, 7))] + list(halls_by_arrows(211, 40, (5, 6, 7)))
        for hall in halls:
            turned = chance.sample([place[0] for place in hall[1]], 2)
            places = tuple((name, 1 - face if name in turned else face, number) for name, face, number in hall[1])
            prices = some_prices(chance, hall)
            for one in (hall, (hall[0], places, hall[2])):
                self.assertEqual(self.checked(one, prices), least_by_trying(one, prices), (one, prices))

    def test_nobody_where_there_is_a_way(self):
        for hall in [*[hall for hall in small_halls(29) if way_home(hall) is not None], *halls_by_arrows(223, 20, (9, 24))]:
            self.assertEqual(least_wedged(hall, [(place[0], 1) for place in hall[1]])[:2], (0, []))

    def test_somebody_where_there_is_none(self):
        for hall in small_halls(37):
            if way_home(hall) is None:
                self.assertGreater(self.checked(hall, [(place[0], 1) for place in hall[1]]), 0)
                self.assertEqual(self.checked(hall, [(place[0], 0) for place in hall[1]]), 0)
                self.assertGreaterEqual(self.checked(hall, tuple((place[0], 1000000) for place in hall[1])), 1000000)

    def test_prices_in_any_order_and_in_a_tuple(self):
        for prices in (PRICES, PRICES[::-1], sorted(PRICES), tuple(PRICES), tuple(sorted(PRICES))):
            self.assertEqual(least_wedged(HALL, prices), least_wedged(HALL, PRICES))

    def test_the_prices_tell_who(self):
        # of two light neighbours either one can stay alone
        hall = (1, (("a", 1, 0), ("b", 1, 0)), (("a", "b", 0),))
        self.assertEqual(least_wedged(hall, [("a", 3), ("b", 2)])[:2], (2, ["b"]))
        self.assertEqual(least_wedged(hall, [("a", 2), ("b", 3)])[:2], (2, ["a"]))
        self.assertEqual(least_wedged(hall, [("a", 0), ("b", 3)])[:2], (0, ["a"]))

    def test_all_must_be_wedged(self):
        hall = (0, tuple((name, 0, 0) for name in LETTERS), ())
        prices = [(name, at) for at, name in enumerate(LETTERS)]
        self.assertEqual(least_wedged(hall, prices)[:2], (sum(range(24)), list(LETTERS)))
        self.checked(hall, prices)

    def test_without_places(self):
        for wheel in (0, 1, 60):
            self.assertEqual(least_wedged((wheel, (), ()), []), (0, [], []))
            self.assertEqual(least_wedged((wheel, (), ()), ()), (0, [], []))

    def test_halls_of_24_places(self):
        chance = Random(227)
        found = []
        for hall in big_halls():
            found.append(self.checked(hall, some_prices(chance, hall)))
            self.assertLessEqual(self.checked(hall, [(place[0], 1) for place in hall[1]]), 24)
        self.assertGreater(max(found), 1000000)
        self.assertIn(0, found)

    def test_one_more_place_in_halls_of_24(self):
        # A dark place tied to a hall that has a way home: no more than its own price.
        chance = Random(229)
        for hall in halls_by_arrows(233, 30, (23,)):
            free = [place[0] for place in hall[1] if len([tie for tie in hall[2] if place[0] in tie]) < 6]
            ties = tuple(sorted([*hall[2], (chance.choice(free), "y", 0)]))
            more = (hall[0], (*hall[1], ("y", 0, 0)), ties)
            prices = [*some_prices(chance, hall), ("y", 5)]
            self.assertLessEqual(self.checked(more, prices), 5)

    def test_stars_and_roads(self):
        chance = Random(239)
        for number in range(5):
            hall = star(0, number, [1, 2, 4, 8, 16, 32])
            self.assertEqual(self.checked(hall, [(name, 5) for name in "abcxyzm"]), 5)
            self.checked(hall, some_prices(chance, hall))
        road = (0, tuple((name, 1, 1) for name in LETTERS), tuple((*pair, 2) for pair in zip(LETTERS, LETTERS[1:])))
        self.checked(road, some_prices(chance, road))


class ShowsWedged(unittest.TestCase):
    def same(self, hall, prices, price, thing):
        told = shows_wedged(hall, prices, price, thing)
        self.assertIs(told, shows_by_words(hall, prices, price, thing), (hall, prices, price, thing))
        return told

    def halls(self):
        yield HALL
        yield BARE
        yield star(5, 2, (1, 2, 3, 4))
        yield from (hall for at, hall in enumerate(small_halls(7)) if at % 211 == 0)
        yield from (hall for hall, row in some_halls(241, 8, (4, 5)))

    def test_the_told_table_with_the_price_less_and_more(self):
        for hall in self.halls():
            prices = some_prices(Random(251), hall)
            price, names, table = least_wedged(hall, prices)
            for less in (0, 1, 2, price, price + 1, 10 ** 30):
                self.assertIs(shows_wedged(hall, prices, price - less, table), True)
                self.assertIs(shows_wedged(hall, tuple(prices), price - less, table), True)
            for more in (1, 2, 10 ** 30):
                self.assertIs(shows_wedged(hall, prices, price + more, table), False)

    def test_tables_with_one_thing_another(self):
        def numbers(part):
            return (0, 1, -10 ** 30) if part is None else (part + 1, part - 1, -part, 10 ** 30, -10 ** 30, None)

        found = []
        chance = Random(257)
        for hall in self.halls():
            prices = some_prices(chance, hall)
            price, names, table = least_wedged(hall, prices)
            for like, written in tables_like(table, numbers):
                found.append(self.same(hall, prices, price, like))
                self.assertIs(self.same(hall, prices, price - 10 ** 40, like) and not written, False)
        self.assertGreater(found.count(True), 50)
        self.assertGreater(found.count(False), 1000)

    def test_rows_exchanged(self):
        price, names, table = least_wedged(HALL, PRICES)
        for one in range(4):
            for two in range(one):
                rows = list(table)
                rows[one], rows[two] = rows[two], rows[one]
                self.assertIs(shows_wedged(HALL, PRICES, -1000, rows), False)

    def test_tables_of_noughts_and_of_none(self):
        for hall in self.halls():
            prices = some_prices(Random(263), hall)
            table = [(place[0], 0, 0, 0) for place in hall[1]]
            for price in (0, -1, -10 ** 30):
                self.assertIs(shows_wedged(hall, prices, price, table), True)
            self.assertIs(shows_wedged(hall, prices, 1, table), False)
            table = [(place[0], None, None, None) for place in hall[1]]
            self.assertIs(shows_wedged(hall, prices, -1, table), not hall[1])

    def test_none_above_all_numbers(self):
        # a's card fits no set, alone: its out and in are any, its cut is no more than its price
        hall = (0, (("a", 0, 0),), ())
        for out, into in product((None, 0, -9, 9, 10 ** 30), repeat=2):
            for cut in (None, 10 ** 30, 6, 5, 4, -10 ** 30):
                wanted = cut is not None and cut <= 5
                self.assertIs(shows_wedged(hall, [("a", 5)], -10 ** 31, [("a", out, into, cut)]), wanted)
                least = min(as_number(out), as_number(cut))
                self.assertIs(shows_wedged(hall, [("a", 5)], 5, [("a", out, into, cut)]), wanted and least >= 5)
                self.assertIs(shows_wedged(hall, [("a", 5)], 6, [("a", out, into, cut)]), False)

    def test_none_put_together_is_none(self):
        # b's card fits no set: its out is None, so the out of a, which fits b alone, may be None as well
        hall = (0, (("a", 0, 3), ("b", 0, 9)), (("a", "b", 3),))
        prices = [("a", 4), ("b", 6)]
        self.assertEqual(least_wedged(hall, prices)[:2], (10, ["a", "b"]))
        self.assertIs(shows_wedged(hall, prices, 10, [("a", None, None, 10), ("b", None, None, 6)]), True)
        self.assertIs(shows_wedged(hall, prices, 10, [("a", None, 0, 10), ("b", None, -7, 6)]), True)
        self.assertIs(shows_wedged(hall, prices, 10, [("a", None, None, 11), ("b", None, None, 6)]), False)
        self.assertIs(shows_wedged(hall, prices, 10, [("a", None, None, None), ("b", None, None, None)]), False)
        self.assertIs(shows_wedged(hall, prices, 10, [("a", None, None, 10), ("b", 10 ** 30, None, 6)]), False)
        self.assertIs(shows_wedged(hall, prices, 10, [("a", 10 ** 30, None, 10), ("b", 10 ** 30, None, 6)]), True)

    def test_true_for_1_and_false_for_0(self):
        hall = (1, (("a", 0, 0), ("b", 0, 0)), (("a", "b", 0),))
        prices = [("a", 1), ("b", 1)]
        table = [("a", 1, 1, 1), ("b", None, 0, 1)]
        self.assertIs(shows_wedged(hall, prices, 1, table), True)
        for part in (True, False):
            for row in range(2):
                for at in range(1, 4):
                    rows = list(table)
                    rows[row] = rows[row][:at] + (part,) + rows[row][at + 1:]
                    self.assertIs(shows_wedged(hall, prices, -5, rows), False)

    def test_a_root_s_in_is_any_number_or_none(self):
        price, names, table = least_wedged(HALL, PRICES)
        for into in (0, -5, 5, 10 ** 30, -10 ** 30, None):
            rows = [(name, out, into if name in "ad" else other, cut) for name, out, other, cut in table]
            self.assertIs(shows_wedged(HALL, PRICES, price, rows), True)
        for into in (True, False, "0", [], (), "None"):
            rows = [(name, out, into if name == "a" else other, cut) for name, out, other, cut in table]
            self.assertIs(shows_wedged(HALL, PRICES, price, rows), False)

    def test_tables_by_chance_against_the_words(self):
        chance = Random(269)
        found = []
        for hall in [*self.halls(), *[hall for hall, row in some_halls(271, 60, (3, 4, 5))]]:
            prices = [(place[0], chance.choice((0, 1, 2))) for place in hall[1]]
            price, names, table = least_wedged(hall, prices)
            for turn in range(20):
                rows = [(row[0], *[self.near_by(chance, part) for part in row[1:]]) for row in table]
                for asked in (price - 1, price, price + 1):
                    found.append(self.same(hall, prices, asked, rows))
                    # what is shown is so
                    self.assertFalse(found[-1] and asked > price)
        self.assertGreater(found.count(True), 100)
        self.assertGreater(found.count(False), 100)

    def near_by(self, chance, part):
        if chance.random() < 0.8:
            return part
        return chance.choice((None, 0, 1, 2)) if part is None else chance.choice((part + 1, part - 1, part - 1, None))

    def test_every_table_of_few_numbers(self):
        found = []
        for hall in list(all_halls(["a", "b"], 2, (0, 1)))[::11]:
            for row in product((-1, 0, 1, None), (0,), (0, 1, 2, None), (0, 1, None), (-1, 0, 1, None), (0, 1, None)):
                table = [("a", *row[:3]), ("b", *row[3:])]
                found.append(self.same(hall, [("b", 1), ("a", 2)], 1, table))
        self.assertGreater(found.count(True), 50)
        self.assertGreater(found.count(False), 1000)

    def test_things_of_every_kind(self):
        for hall in (HALL, BARE):
            for thing in ODD_THINGS:
                for other in (thing, [thing], (thing,), [thing] * 4, [("a", 0, 0, thing)], [("a", thing, 0, 0)]):
                    wanted = hall == BARE and type(other) is list and other == []
                    self.assertIs(shows_wedged(hall, PRICES if hall == HALL else [], 0, other), wanted)

    def test_without_places(self):
        self.assertIs(shows_wedged(BARE, [], 0, []), True)
        self.assertIs(shows_wedged(BARE, (), -1, []), True)
        self.assertIs(shows_wedged(BARE, [], 1, []), False)
        self.assertIs(shows_wedged(BARE, [], 0, ()), False)


class Told(OwnAnswers, unittest.TestCase):
    TABLE = least_wedged(HALL, PRICES)[2]
    ASKS = [(without, (HALL, ["a"])), (without, (HALL, [])), (least_wedged, (HALL, PRICES)),
            (least_wedged, (HALL, tuple(PRICES))), (least_wedged, (BARE, [])),
            (shows_wedged, (HALL, PRICES, 14, TABLE)), (shows_wedged, (HALL, PRICES, 15, TABLE))]
    NAMES = {"without": "hall names", "least_wedged": "hall prices", "shows_wedged": "hall prices price thing"}


if __name__ == "__main__":
    unittest.main()
