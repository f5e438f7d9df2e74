import unittest

from mirrorwood.errors import MayNot, NoWay
from mirrorwood.goings import behind, gone, is_way, may_go
from mirrorwood.home import bars, good, shows_bar, way_home, why_not
from things import (ODD_THINGS, OwnAnswers, bars_by_trying, big_halls, earlier_by_sides, neighbours, seatings_by_trying,
                    small_halls, some_halls, star, ways_by_trying)

BARE = (7, (), ())
# e and f alone aren't odd, c - d isn't; a is odd but shows 3; b - g: g has no good seating; h is fine
BARRED = (7, (("a", 1, 3), ("b", 1, 0), ("c", 1, 0), ("d", 1, 0), ("e", 0, 0), ("f", 0, 2), ("g", 0, 1), ("h", 1, 0)),
          (("b", "g", 2), ("c", "d", 4)))
BARS = [("even", ["c", "d"]), ("even", ["e"]), ("even", ["f"]), ("seats", "a"), ("seats", "g")]
# m goes behind a and b, a first; c goes behind m
HALL = (0, (("a", 1, 0), ("b", 1, 0), ("c", 0, 9), ("m", 1, 3)), (("a", "m", 5), ("b", "m", 2), ("c", "m", 9)))


def why_by_trying(hall, name, ways):
    """Why not, of a hall with these ways home, by the words of the document."""
    if [row for row in ways if row[0] == name]:
        return None
    if (name, 1, 0) not in hall[1]:
        return ("card",)
    ahead = earlier_by_sides(hall, name)
    if ahead:
        return ("arrow", ahead[0])
    for other in sorted(neighbours(hall, name)):
        if not [seating for seating in seatings_by_trying(hall, other) if name in seating]:
            return ("seat", other)
    return "none is due"


class Home(unittest.TestCase):
    def tells_as_tried(self, hall):
        ways = ways_by_trying(hall)
        barred = bars_by_trying(hall)
        self.assertEqual(bars(hall), barred, hall)
        self.assertEqual(not ways, bool(barred), hall)
        self.assertEqual(way_home(hall), ways[0] if ways else None, hall)
        self.assertEqual(good(hall), sorted({row[0] for row in ways if row}), hall)
        for name, face, number in hall[1]:
            if ways:
                self.assertEqual(why_not(hall, name), why_by_trying(hall, name, ways), (hall, name))
            else:
                with self.assertRaises(NoWay) as caught:
                    why_not(hall, name)
                self.assertEqual(caught.exception.what, barred[0])
        return ways

    def test_all_small_halls(self):
        found = [len(self.tells_as_tried(hall)) for hall in small_halls(1)]
        self.assertGreater(found.count(0), 1000)
        self.assertGreater(len(found) - found.count(0), 500)
        self.assertEqual(max(found), 24)

    def test_halls_of_five_to_seven_places(self):
        answers = set()
        for hall, row in some_halls(13, 150, (5, 6, 7)):
            self.assertIn(row, self.tells_as_tried(hall))
            answers |= {str(why_not(hall, name) and why_not(hall, name)[0]) for name in row}
        self.assertEqual(answers, {"None", "card", "arrow", "seat"})

    def test_stars(self):
        for mirrors in [(1,), (1, 2), (3, 3), (1, 2, 2), (1, 2, 3, 4), (0, 1, 0, 1), (0, 1, 1, 2, 4), (1, 2, 4, 1, 2, 4)]:
            for number in range(5):
                self.tells_as_tried(star(5, number, mirrors))

    def test_without_places(self):
        for wheel in (0, 1, 7):
            hall = (wheel, (), ())
            self.assertEqual((bars(hall), way_home(hall), good(hall)), ([], [], []))
            self.assertIs(shows_bar(hall, ("even", [])), False)


class Bars(unittest.TestCase):
    def test_several_and_their_order(self):
        self.assertEqual(bars(BARRED), BARS)

    def test_pieces_go_ahead_of_places(self):
        hall = (0, (("a", 1, 5), ("z", 0, 0)), ())
        self.assertEqual(bars(hall), [("even", ["z"]), ("seats", "a")])

    def test_no_place_of_a_piece_that_is_not_odd(self):
        hall = (0, (("a", 1, 5), ("b", 1, 6)), (("a", "b", 0),))
        self.assertEqual(bars(hall), [("even", ["a", "b"])])

    def test_pieces_rise(self):
        hall = (0, tuple((name, 1, 0) for name in "abcdef"), (("a", "f", 0), ("b", "e", 0), ("c", "d", 0)))
        self.assertEqual(bars(hall), [("even", ["a", "f"]), ("even", ["b", "e"]), ("even", ["c", "d"])])

    def test_kinds(self):
        for bar in bars(BARRED):
            self.assertIsInstance(bar, tuple)
        self.assertIsInstance(bars(BARRED)[0][1], list)


class ShowsBar(unittest.TestCase):
    def none(self, hall, thing):
        self.assertIs(shows_bar(hall, thing), False, (hall, thing))

    def test_each_bar_and_no_other_hall_s(self):
        for hall in small_halls(41):
            told = bars(hall)
            for bar in told:
                self.assertIs(shows_bar(hall, bar), True)
            names = [place[0] for place in hall[1]]
            for thing in [("seats", name) for name in names] + [("even", [name]) for name in names] + [("even", names)]:
                self.assertIs(shows_bar(hall, thing), thing in bars_by_trying(hall))

    def test_bars_that_are_not_due(self):
        for thing in [("even", ["a"]), ("even", ["h"]), ("even", ["b", "g"]), ("even", ["c"]), ("even", []),
                      ("even", ["c", "d", "e"]), ("even", ["e", "f"]), ("seats", "b"), ("seats", "h"), ("seats", "c"),
                      ("seats", "e"), ("seats", "z"), ("odd", ["e"]), ("seats", ["a"]), ("even", "e"), ("even", "cd")]:
            self.none(BARRED, thing)
        for bar in BARS:
            self.none(HALL, bar)
            self.none(BARE, bar)

    def test_lists_for_tuples_and_tuples_for_lists(self):
        for word, rest in BARS:
            self.assertIs(shows_bar(BARRED, (word, rest)), True)
            self.none(BARRED, [word, rest])
            self.none(BARRED, (word, tuple(rest)))
            self.none(BARRED, (word, [rest]))
            self.none(BARRED, ((word, rest),))
            self.none(BARRED, [(word, rest)])
            self.none(BARRED, (word, rest, rest))
            self.none(BARRED, (word,))
            self.none(BARRED, (rest, word))

    def test_names_that_do_not_rise(self):
        for names in (["d", "c"], ["c", "c", "d"], ["c", "d", "d"]):
            self.none(BARRED, ("even", names))

    def test_things_of_every_kind(self):
        for thing in ODD_THINGS:
            for hall in (BARRED, HALL, BARE):
                self.none(hall, thing)
                self.none(hall, ("even", thing))
                self.none(hall, ("even", [thing]))
                self.none(hall, (thing, ["e"]))
                self.none(hall, ["seats", thing])
                self.assertIs(shows_bar(hall, ("seats", thing)), hall == BARRED and thing == "a")


class WhyNot(unittest.TestCase):
    def refused(self, hall, name, bar):
        with self.assertRaises(NoWay) as caught:
            why_not(hall, name)
        self.assertEqual(caught.exception.what, bar)
        self.assertIsInstance(caught.exception.what, tuple)

    def test_refused_with_the_first_bar(self):
        for name, face, number in BARRED[1]:
            self.refused(BARRED, name, ("even", ["c", "d"]))
        self.refused((0, (("a", 1, 5), ("z", 0, 0)), ()), "a", ("even", ["z"]))
        self.refused((0, (("a", 1, 0), ("y", 1, 5), ("z", 1, 6)), ()), "a", ("seats", "y"))

    def test_refused_lists_are_the_asker_s_own(self):
        for turn in range(2):
            with self.assertRaises(NoWay) as caught:
                why_not(BARRED, "a")
            self.assertEqual(caught.exception.what, ("even", ["c", "d"]))
            caught.exception.what[1].append("z")

    def test_each_answer(self):
        self.assertIsNone(why_not(HALL, "a"))
        self.assertEqual(why_not(HALL, "c"), ("card",))
        self.assertEqual(why_not(HALL, "m"), ("card",))
        self.assertEqual(why_not(HALL, "b"), ("seat", "m"))
        self.assertIsNone(why_not(gone(HALL, "a"), "b"))

    def test_the_least_of_several_earlier_ones(self):
        # m shows 0 at first, too, but b and c go ahead of it
        hall = star(0, 0, (4, 4))
        self.assertEqual(may_go(hall), ["a", "b", "m"])
        self.assertEqual(why_not(hall, "m"), ("arrow", "a"))
        self.assertEqual(good(hall), ["a", "b"])

    def test_the_least_of_several_later_ones(self):
        # m goes ahead of b, c and d; at c and d another one must sit at the one odd turn
        hall = (0, (("b", 0, 1), ("bx", 1, 0), ("c", 1, 3), ("cx", 1, 0), ("d", 1, 3), ("dx", 1, 0), ("m", 1, 0)),
                (("b", "m", 1), ("c", "cx", 5), ("c", "m", 2), ("d", "dx", 5), ("d", "m", 2)))
        self.assertEqual(bars(hall), [])
        self.assertEqual(why_not(hall, "m"), ("seat", "c"))
        self.assertEqual(why_not(gone(hall, "cx"), "m"), ("seat", "d"))
        self.assertIsNone(why_not(behind(hall, ["dx", "cx"]), "m"))

    def test_card_goes_ahead_of_arrow_and_arrow_of_seat(self):
        # a goes ahead of b, though b is free, and b ahead of c, at which d must sit at the odd turn
        ties = (("a", "b", 0), ("a", "e", 0), ("b", "c", 2), ("b", "f", 0), ("c", "d", 5))
        places = (("a", 1, 0), ("b", 1, 0), ("c", 1, 3), ("d", 1, 0), ("e", 0, 0), ("f", 1, 0))
        hall = (0, places, ties)
        self.assertEqual(bars(hall), [])
        self.assertEqual(earlier_by_sides(hall, "b"), ["a", "f"])
        self.assertEqual(seatings_by_trying(hall, "c"), [("d",)])
        self.assertEqual(why_not(hall, "b"), ("arrow", "a"))
        self.assertEqual(earlier_by_sides(hall, "c"), ["b", "d"])
        self.assertEqual(why_not(hall, "c"), ("card",))


class BigHalls(unittest.TestCase):
    def test_ways_home_or_bars_never_both(self):
        found = []
        for at, hall in enumerate(big_halls()):
            row = way_home(hall)
            told = bars(hall)
            self.assertEqual(told, bars_by_trying(hall))
            found.append(row is None)
            if row is None:
                self.assertTrue(told)
                self.assertTrue(all(shows_bar(hall, bar) for bar in told))
                self.assertEqual(good(hall), [])
            else:
                self.assertEqual(told, [])
                self.assertIs(is_way(hall, row), True)
                if at % 5 == 0:
                    self.is_least(hall, row)
        self.assertGreater(found.count(True), 20)
        self.assertGreater(found.count(False), 20)

    def is_least(self, hall, row):
        for name in row:
            wanted = [other for other in may_go(hall) if not bars_by_trying(gone(hall, other))]
            self.assertEqual(good(hall), wanted)
            self.assertEqual(name, wanted[0])
            for other, face, number in hall[1]:
                self.assertEqual(why_not(hall, other) is None, other in wanted)
            hall = gone(hall, name)

    def test_all_goings_free(self):
        hall = (60, tuple((name, 1, 0) for name in "abcdefghijklmnopqrstuvwx"), ())
        names = list("abcdefghijklmnopqrstuvwx")
        self.assertEqual((bars(hall), way_home(hall), good(hall)), ([], names, names))
        self.assertEqual([why_not(hall, name) for name in names], [None] * 24)

    def test_none_free(self):
        hall = (60, tuple((name, 0, 0) for name in "abcdefghijklmnopqrstuvwx"), ())
        self.assertEqual(bars(hall), [("even", [name]) for name in "abcdefghijklmnopqrstuvwx"])
        self.assertEqual((way_home(hall), good(hall)), (None, []))

    def test_refused_rows_of_ways_home(self):
        for hall, row in some_halls(17, 20, (24,)):
            self.assertEqual(bars(hall), [])
            self.assertLessEqual(way_home(hall), row)
            for other in may_go(hall):
                left = gone(hall, other)
                if other not in good(hall):
                    self.assertIsNone(way_home(left))
                    self.assertRaises(MayNot, behind, hall, [other, *[name for name in row if name != other]])


class Told(OwnAnswers, unittest.TestCase):
    ASKS = [*[(ask, (hall,)) for ask in (bars, way_home, good) for hall in (HALL, BARRED, BARE)],
            (shows_bar, (BARRED, ("even", ["c", "d"]))), (shows_bar, (BARRED, ("even", ["d", "c"]))),
            *[(why_not, (HALL, name)) for name in "abcm"]]
    NAMES = {"bars": "hall", "shows_bar": "hall thing", "way_home": "hall", "good": "hall", "why_not": "hall name"}


if __name__ == "__main__":
    unittest.main()
