import unittest
from itertools import permutations

from mirrorwood.errors import MayNot
from mirrorwood.goings import behind, gone, is_way, may_go
from mirrorwood.halls import card_of, is_hall
from things import ODD_THINGS, OwnAnswers, big_halls, neighbours, on_wheel, small_halls, some_halls, ways_by_trying

# a and c are free, b is dark, d is light but doesn't show 0, e is dark and shows 0
HALL = (7, (("a", 1, 0), ("b", 0, 3), ("c", 1, 0), ("d", 1, 2), ("e", 0, 0)),
        (("a", "b", 1), ("a", "d", 6), ("b", "c", 5), ("c", "e", 0)))
PLAIN = (0, (("a", 1, 0), ("b", 0, 3), ("c", 1, -4)), (("a", "b", -10), ("a", "c", 1000000)))
BARE = (5, (), ())
# By a, then b; by nothing else.
PAIR = (0, (("a", 1, 0), ("b", 0, 3)), (("a", "b", 3),))


class Refused(unittest.TestCase):
    def refused(self, what, ask, *handed):
        with self.assertRaises(MayNot) as caught:
            ask(*handed)
        self.assertEqual(caught.exception.what, what)


class MayGo(unittest.TestCase):
    def test_light_ones_that_show_0(self):
        self.assertEqual(may_go(HALL), ["a", "c"])
        self.assertEqual(may_go(PLAIN), ["a"])

    def test_none(self):
        self.assertEqual(may_go(BARE), [])
        self.assertEqual(may_go((3, (("a", 0, 0), ("b", 1, 1), ("c", 0, 2)), ())), [])

    def test_all_rise(self):
        self.assertEqual(may_go((3, (("a", 1, 0), ("ab", 1, 0), ("b", 1, 0)), (("a", "b", 2),))), ["a", "ab", "b"])


class Gone(Refused):
    def test_with_a_wheel(self):
        self.assertEqual(gone(HALL, "a"), (
            7, (("b", 1, 5), ("c", 1, 0), ("d", 0, 4), ("e", 0, 0)), (("b", "c", 5), ("c", "e", 0))))
        self.assertEqual(gone(HALL, "c"), (
            7, (("a", 1, 0), ("b", 1, 2), ("d", 1, 2), ("e", 1, 0)), (("a", "b", 1), ("a", "d", 6))))

    def test_without_a_wheel(self):
        self.assertEqual(gone(PLAIN, "a"), (0, (("b", 1, -13), ("c", 0, 1000004)), ()))

    def test_the_last_one(self):
        self.assertEqual(gone((5, (("a", 1, 0),), ()), "a"), BARE)

    def test_refused(self):
        self.refused("b", gone, HALL, "b")
        self.refused("d", gone, HALL, "d")
        self.refused("e", gone, HALL, "e")

    def test_refused_of_a_name_that_is_not_there(self):
        self.refused("z", gone, HALL, "z")
        self.refused("a", gone, BARE, "a")
        self.refused("a", gone, gone(HALL, "a"), "a")

    def test_each_going_of_many_halls(self):
        for hall in [HALL, PLAIN, *small_halls(31), *big_halls()]:
            for name, face, number in hall[1]:
                if (face, number) != (1, 0):
                    self.refused(name, gone, hall, name)
                    continue
                told = gone(hall, name)
                self.assertIs(is_hall(told), True)
                self.assertEqual(told[0], hall[0])
                self.assertEqual(told[2], tuple(tie for tie in hall[2] if name not in tie))
                self.assertEqual([place[0] for place in told[1]], [place[0] for place in hall[1] if place[0] != name])
                mirrors = neighbours(hall, name)
                for other, *card in told[1]:
                    face, number = card_of(hall, other)
                    if other in mirrors:
                        face, number = 1 - face, on_wheel(hall[0], mirrors[other] - number)
                    self.assertEqual(card, [face, number])


class Behind(Refused):
    def test_one_behind_the_other(self):
        self.assertEqual(behind(HALL, ["a"]), gone(HALL, "a"))
        self.assertEqual(behind(HALL, ["a", "c"]), gone(gone(HALL, "a"), "c"))
        self.assertEqual(behind(HALL, ["c", "e"]), gone(gone(HALL, "c"), "e"))
        self.assertEqual(behind(PAIR, ["a", "b"]), (0, (), ()))

    def test_the_bare_row(self):
        self.assertEqual(behind(HALL, []), HALL)
        self.assertEqual(behind(BARE, []), BARE)
        self.assertEqual(behind(HALL, ()), HALL)

    def test_a_tuple_for_the_list(self):
        self.assertEqual(behind(HALL, ("c", "e", "a")), behind(HALL, ["c", "e", "a"]))
        self.refused("b", behind, HALL, ("c", "b"))

    def test_refused_of_the_first(self):
        self.refused("b", behind, HALL, ["b"])
        self.refused("e", behind, HALL, ["a", "e", "b", "c"])
        self.refused("d", behind, HALL, ["c", "d", "z"])
        self.refused("b", behind, PAIR, ["b", "a"])

    def test_refused_of_a_name_that_is_not_there(self):
        self.refused("z", behind, HALL, ["c", "z", "b"])
        self.refused("a", behind, HALL, ["a", "a"])
        self.refused("a", behind, PAIR, ["a", "b", "a"])
        self.refused("z", behind, BARE, ["z"])

    def test_all_rows_of_small_halls(self):
        for hall in small_halls(301):
            for row in permutations([place[0] for place in hall[1]]):
                self.goes_as_one_by_one(hall, list(row))

    def goes_as_one_by_one(self, hall, row):
        left = hall
        for name in row:
            if name not in may_go(left):
                self.refused(name, behind, hall, row)
                return
            left = gone(left, name)
        self.assertEqual(behind(hall, row), left)


class IsWay(unittest.TestCase):
    def way(self, hall, thing):
        self.assertIs(is_way(hall, thing), True, (hall, thing))

    def none(self, hall, thing):
        self.assertIs(is_way(hall, thing), False, (hall, thing))

    def test_every_way_and_no_other_row_of_small_halls(self):
        for hall in small_halls(3):
            found = ways_by_trying(hall)
            for row in permutations([place[0] for place in hall[1]]):
                self.assertIs(is_way(hall, list(row)), list(row) in found, (hall, row))

    def test_without_places(self):
        self.way(BARE, [])
        for thing in [(), ["a"], [[]], [None], None, False, 0, ""]:
            self.none(BARE, thing)

    def test_rows_too_short(self):
        self.none(PAIR, [])
        self.none(PAIR, ["a"])
        self.none((5, (("a", 1, 0),), ()), [])

    def test_rows_too_long(self):
        for more in ("a", "b", "z", "", None, True, 0, [], ["a"]):
            self.none(PAIR, ["a", "b", more])

    def test_a_name_twice(self):
        self.none(PAIR, ["a", "a"])
        self.none((5, (("a", 1, 0), ("b", 1, 0)), ()), ["a", "a"])
        self.none((5, (("a", 1, 0), ("b", 1, 0)), ()), ["a", "a", "b"])

    def test_tuples_and_texts(self):
        self.way(PAIR, ["a", "b"])
        for thing in [("a", "b"), "ab", ["ab"], [["a", "b"]], [("a", "b")], [["a"], ["b"]], [("a",), ("b",)]]:
            self.none(PAIR, thing)

    def test_lists_of_other_things(self):
        for thing in ODD_THINGS:
            for hall in (PAIR, HALL, (5, (("a", 1, 0),), ())):
                self.none(hall, thing)
                self.none(hall, [thing, thing])
                if thing != "a":
                    self.none(hall, [thing])
            self.none(PAIR, ["a", thing])
            self.none(PAIR, [thing, "b"] if thing != "a" else None)

    def test_true_and_1(self):
        for thing in [True, 1, [True], [1], [True, "b"], ["a", 1], ["a", True], [0], [False]]:
            self.none(PAIR, thing)
            self.none((5, (("a", 1, 0),), ()), thing)

    def test_halls_of_24_places(self):
        for hall, row in some_halls(6, 20, (24,)):
            self.way(hall, row)
            self.none(hall, row[:-1])
            self.none(hall, row + row[:1])
            self.none(hall, tuple(row))
        for hall in big_halls():
            names = [place[0] for place in hall[1]]
            self.assertIs(is_way(hall, names), self.goes(hall, names))

    def goes(self, hall, row):
        try:
            return behind(hall, row)[1] == ()
        except MayNot:
            return False


class Told(OwnAnswers, unittest.TestCase):
    ASKS = [(may_go, (HALL,)), (may_go, (BARE,)), (gone, (HALL, "c")), (behind, (HALL, ["c", "e"])), (behind, (HALL, [])),
            (is_way, (PAIR, ["a", "b"])), (is_way, (PAIR, ["a"]))]
    NAMES = {"may_go": "hall", "gone": "hall name", "behind": "hall row", "is_way": "hall thing"}

    def test_a_refusal_changes_nothing(self):
        row = ["a", "e"]
        self.assertRaises(MayNot, behind, HALL, row)
        self.assertEqual(row, ["a", "e"])
        self.assertEqual(may_go(HALL), ["a", "c"])


if __name__ == "__main__":
    unittest.main()
