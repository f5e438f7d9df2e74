import unittest
from itertools import combinations, permutations, product

from mirrorwood.seats import is_order, least_order, orders, seatings
from things import (ODD_THINGS, OwnAnswers, big_halls, earlier_by_sides, neighbours, on_wheel, orders_by_trying,
                    small_halls, some_halls, star)

BARE_PLACE = (0, (("a", 1, 0),), ())
# c goes behind a and b: 5 - 2 comes to 3
HALL = (0, (("a", 1, 0), ("b", 1, 0), ("c", 1, 3)), (("a", "c", 5), ("b", "c", 2)))
# The same ties, but the piece isn't odd.
EVEN = (0, (("a", 1, 0), ("b", 1, 0), ("c", 0, 3)), (("a", "c", 5), ("b", "c", 2)))
AROUND = "abcxyz"


def stars():
    """Odd stars around m with none to six earlier ones, mirrors all alike, all unlike and between."""
    for many in range(7):
        for mirrors in ([4] * many, [1, 2, 4, 8, 16, 32][:many], [0, 5, 0, 5, 5, 1][:many], [-3, 3, -3, 3, -3, 3][:many]):
            for wheel in (0, 1, 2, 5, 60):
                counted = [on_wheel(wheel, mirror) for mirror in mirrors]
                for number in sorted({on_wheel(wheel, number) for number in (0, 1, 3, 4, -6, 21, 42)}):
                    yield star(wheel, number, counted)


class Seatings(unittest.TestCase):
    def by_words(self, hall, name):
        """The good seatings by the words of the document, of a place of an odd piece."""
        mirrors = neighbours(hall, name)
        number = {place[0]: place[2] for place in hall[1]}[name]
        ahead = earlier_by_sides(hall, name)
        many = len(ahead) // 2 if len(ahead) % 2 == 0 else len(ahead) // 2 + 1
        told = []
        for seating in combinations(ahead, many):
            others = [other for other in ahead if other not in seating]
            found = sum(mirrors[other] for other in seating) - sum(mirrors[other] for other in others)
            if on_wheel(hall[0], found) == number:
                told.append(seating)
        return told

    def test_without_earlier_ones(self):
        self.assertEqual(seatings(BARE_PLACE, "a"), [()])
        self.assertEqual(seatings((0, (("a", 1, 4),), ()), "a"), [])
        self.assertEqual(seatings((5, (("a", 1, 4),), ()), "a"), [])
        self.assertEqual(seatings(HALL, "a"), [()])

    def test_in_a_piece_that_is_not_odd(self):
        for name in "abc":
            self.assertEqual(seatings(EVEN, name), [])
        self.assertEqual(seatings((0, (("a", 0, 0),), ()), "a"), [])

    def test_two_earlier_ones(self):
        self.assertEqual(seatings(HALL, "c"), [("a",)])
        self.assertEqual(seatings(star(0, -1, [1, 2]), "m"), [("a",)])
        self.assertEqual(seatings(star(0, 1, [1, 2]), "m"), [("b",)])
        self.assertEqual(seatings(star(0, 3, [1, 2]), "m"), [])
        self.assertEqual(seatings(star(2, 1, [1, 0]), "m"), [("a",), ("b",)])
        self.assertEqual(seatings(star(3, 2, [1, 2]), "m"), [("a",)])

    def test_one_and_three_earlier_ones(self):
        self.assertEqual(seatings(star(7, 5, [5]), "m"), [("a",)])
        self.assertEqual(seatings(star(7, 2, [5]), "m"), [])
        self.assertEqual(seatings(star(0, 1, [1, 2, 2]), "m"), [("a", "b"), ("a", "c")])
        self.assertEqual(seatings(star(0, 3, [1, 2, 2]), "m"), [("b", "c")])

    def test_six_earlier_ones_all_alike(self):
        told = seatings(star(0, 0, [9] * 6), "m")
        self.assertEqual(told, list(combinations(AROUND, 3)))
        self.assertEqual(len(told), 20)
        self.assertEqual(seatings(star(0, 9, [9] * 6), "m"), [])

    def test_six_earlier_ones_all_unlike(self):
        self.assertEqual(seatings(star(0, 56 - 7, [1, 2, 4, 8, 16, 32]), "m"), [("x", "y", "z")])
        self.assertEqual(seatings(star(0, 56 - 8, [1, 2, 4, 8, 16, 32]), "m"), [])
        self.assertEqual(seatings(star(0, 49 - 14, [1, 2, 4, 8, 16, 32]), "m"), [("a", "y", "z")])

    def test_by_the_words_in_stars(self):
        for hall in stars():
            told = seatings(hall, "m")
            self.assertEqual(told, self.by_words(hall, "m"), hall)
            self.assertTrue(all(isinstance(seating, tuple) for seating in told))

    def test_by_the_words_in_big_halls(self):
        for hall, row in some_halls(11, 40, (8, 12, 24)):
            for name in row:
                self.assertEqual(seatings(hall, name), self.by_words(hall, name))

    def test_some_of_the_neighbours_go_behind(self):
        # a and b go ahead of m, m ahead of x and y
        hall = (0, (("a", 1, 0), ("b", 1, 0), ("m", 1, 1), ("x", 0, 0), ("y", 0, 0)),
                (("a", "m", 1), ("b", "m", 2), ("m", "x", 50), ("m", "y", 70)))
        self.assertEqual(seatings(hall, "m"), [("b",)])
        self.assertEqual(seatings(hall, "x"), [])
        self.assertEqual(seatings((0, hall[1][:3] + (("x", 0, 50),), hall[2][:3]), "x"), [("m",)])


class Orders(unittest.TestCase):
    def as_tried(self, hall, name):
        found = orders_by_trying(hall, name)
        self.assertEqual(orders(hall, name), len(found), (hall, name))
        self.assertEqual(least_order(hall, name), found[0] if found else None, (hall, name))
        self.assertEqual(seatings(hall, name), sorted({tuple(sorted(row[::2])) for row in found}), (hall, name))
        return found

    def test_all_orders_of_stars(self):
        for hall in stars():
            found = self.as_tried(hall, "m")
            ahead = earlier_by_sides(hall, "m")
            if len(ahead) < 6:
                for row in permutations(ahead):
                    self.assertIs(is_order(hall, "m", list(row)), list(row) in found)
            else:
                for row in list(permutations(ahead))[::29]:
                    self.assertIs(is_order(hall, "m", list(row)), list(row) in found)

    def test_all_orders_of_small_halls(self):
        for hall in small_halls(11):
            for name, face, number in hall[1]:
                found = self.as_tried(hall, name)
                for row in permutations(earlier_by_sides(hall, name)):
                    self.assertIs(is_order(hall, name, list(row)), list(row) in found)

    def test_halls_of_24_places(self):
        for hall in big_halls():
            for name, face, number in hall[1]:
                for row in self.as_tried(hall, name)[::50]:
                    self.assertIs(is_order(hall, name, row), True)
                    self.assertIs(is_order(hall, name, tuple(row)), False)

    def test_the_least_order_goes_to_and_fro(self):
        self.assertEqual(least_order(star(0, 49 - 14, [1, 2, 4, 8, 16, 32]), "m"), ["a", "b", "y", "c", "z", "x"])
        self.assertEqual(least_order(star(0, 0, [9] * 6), "m"), list(AROUND))
        self.assertEqual(least_order(star(0, 3, [1, 2, 2]), "m"), ["b", "a", "c"])

    def test_the_least_order_is_not_always_of_the_least_seating(self):
        hall = star(0, 1, [1, 2, 2, 0])
        self.assertEqual(seatings(hall, "m"), [("a", "b"), ("a", "c")])
        self.assertEqual(least_order(hall, "m"), ["a", "b", "c", "x"])

    def test_all_stars_of_four(self):
        for mirrors in product(range(3), repeat=4):
            for number in range(3):
                self.as_tried(star(3, number, mirrors), "m")

    def test_without_earlier_ones(self):
        self.assertEqual((orders(BARE_PLACE, "a"), least_order(BARE_PLACE, "a")), (1, []))
        self.assertIs(is_order(BARE_PLACE, "a", []), True)
        barred = (0, (("a", 1, 4),), ())
        self.assertEqual((orders(barred, "a"), least_order(barred, "a")), (0, None))
        self.assertIs(is_order(barred, "a", []), False)

    def test_in_a_piece_that_is_not_odd(self):
        for hall, name in [(EVEN, "a"), (EVEN, "c"), ((0, (("a", 0, 0),), ()), "a")]:
            self.assertEqual((orders(hall, name), least_order(hall, name)), (0, None))
            for thing in [[], ["a"], ["a", "b"], ["b", "a"], None]:
                self.assertIs(is_order(hall, name, thing), False)


class IsOrder(unittest.TestCase):
    def none(self, hall, name, thing):
        self.assertIs(is_order(hall, name, thing), False, (hall, name, thing))

    def test_the_one_order(self):
        self.assertIs(is_order(HALL, "c", ["a", "b"]), True)
        self.none(HALL, "c", ["b", "a"])

    def test_rows_too_short_or_too_long(self):
        for thing in [[], ["a"], ["a", "b", "c"], ["a", "b", "b"], ["a", "a"], ["b", "b"], ["a", "b", None]]:
            self.none(HALL, "c", thing)
        for thing in [["a"], ["c"], ["b"], [""], [[]]]:
            self.none(HALL, "a", thing)

    def test_other_names(self):
        for thing in [["a", "c"], ["a", "z"], ["z", "b"], ["a", "bb"]]:
            self.none(HALL, "c", thing)

    def test_things_that_are_no_list_of_names(self):
        for thing in [("a", "b"), "ab", ["ab"], [["a", "b"]], [["a"], ["b"]], [("a",), "b"]]:
            self.none(HALL, "c", thing)
        for thing in ODD_THINGS:
            self.none(HALL, "c", thing)
            self.none(HALL, "c", ["a", thing])
            self.none(HALL, "c", [thing, "b"] if thing != "a" else None)
            self.none(HALL, "c", [thing, thing])
            self.none(star(0, 3, [1, 2, 2]), "m", ["b", thing, "c"] if thing != "a" else None)
            self.assertIs(is_order(HALL, "a", thing), isinstance(thing, list) and not thing)

    def test_true_and_1(self):
        for thing in [True, 1, [True], [1, True], ["a", 1], ["a", True], [0, False]]:
            self.none(HALL, "c", thing)
            self.none(HALL, "a", thing)


class Told(OwnAnswers, unittest.TestCase):
    ASKS = [*[(ask, (hall, name)) for ask in (seatings, orders, least_order) for hall in (HALL, EVEN) for name in "abc"],
            (is_order, (HALL, "c", ["a", "b"])), (is_order, (HALL, "c", ["b", "a"]))]
    NAMES = {"seatings": "hall name", "orders": "hall name", "is_order": "hall name thing", "least_order": "hall name"}


if __name__ == "__main__":
    unittest.main()
