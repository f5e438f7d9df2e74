import unittest
from random import Random

from mirrorwood.errors import NoWay
from mirrorwood.goings import is_way
from mirrorwood.home import bars
from mirrorwood.turns import latest, soonest
from things import (LETTERS, OwnAnswers, big_halls, earlier_by_sides, hall_by_arrows, halls_by_arrows, neighbours,
                    seatings_by_trying, small_halls, some_halls, star, ways_by_trying, zigzag)

# m goes behind a and b, a first; c goes behind m; z is alone
HALL = (0, (("a", 1, 0), ("b", 1, 0), ("c", 0, 9), ("m", 1, 3), ("z", 1, 0)),
        (("a", "m", 5), ("b", "m", 2), ("c", "m", 9)))
BARRED = (7, (("a", 1, 3), ("b", 1, 0), ("c", 1, 0), ("d", 1, 0), ("e", 0, 0)), (("c", "d", 4),))


class Turns(unittest.TestCase):
    def checked(self, hall, name, told):
        """The turn that is told, behind a look at what it's told with."""
        self.assertIsInstance(told, tuple)
        turn, row = told
        self.assertIs(is_way(hall, row), True, (hall, name, row))
        self.assertEqual(row[turn - 1], name, (hall, name, row))
        self.assertIs(type(turn), int)
        return turn

    def as_tried(self, hall):
        """Compared with all ways home; which turns were told, (soonest, latest) of each name."""
        ways = ways_by_trying(hall)
        told = []
        for name, face, number in hall[1]:
            turns = [row.index(name) + 1 for row in ways]
            early, late = soonest(hall, name), latest(hall, name)
            self.assertEqual((early[0], late[0]), (min(turns), max(turns)), (hall, name))
            self.assertIn(early[1], ways)
            self.assertIn(late[1], ways)
            told.append((self.checked(hall, name, early), self.checked(hall, name, late)))
        return told

    def turns(self, hall, name):
        return (self.checked(hall, name, soonest(hall, name)), self.checked(hall, name, latest(hall, name)))


class SmallHalls(Turns):
    def test_each_name(self):
        self.assertEqual([self.turns(HALL, name) for name in "abcmz"], [(1, 2), (2, 3), (4, 5), (3, 4), (1, 5)])

    def test_all_small_halls(self):
        found = [self.as_tried(hall) for hall in small_halls(1) if not bars(hall)]
        self.assertGreater(len(found), 500)
        self.assertIn([(1, 4)] * 4, found)

    def test_halls_of_five_to_seven_places(self):
        for hall in halls_by_arrows(31, 350, (5, 6, 7)):
            self.as_tried(hall)
        for hall, row in some_halls(37, 100, (5, 6, 7)):
            self.as_tried(hall)

    def test_halls_of_eight_places_with_one_seating_each(self):
        chance = Random(41)
        for turn in range(60):
            self.as_tried(hall_by_arrows(chance, 8, 0, (1, 2, 4, 8, 16, 32, 64), 6, 0))

    def test_stars(self):
        found = 0
        for mirrors in [(1,), (1, 2), (3, 3), (1, 2, 2), (1, 2, 3, 4), (0, 1, 0, 1), (0, 1, 1, 2, 4), (1, 2, 4, 1, 2, 4)]:
            for number in range(5):
                hall = star(5, number, mirrors)
                if not bars(hall):
                    found += 1
                    self.as_tried(hall)
        self.assertGreater(found, 10)

    def test_a_place_alone(self):
        self.assertEqual(soonest((0, (("a", 1, 0),), ()), "a"), (1, ["a"]))
        self.assertEqual(latest((0, (("a", 1, 0),), ()), "a"), (1, ["a"]))

    def test_several_pieces(self):
        # z waits for nobody; a - b - c goes in one order
        hall = (0, (("a", 1, 0), ("b", 0, 4), ("c", 0, 6), ("z", 1, 0)), (("a", "b", 4), ("b", "c", 6)))
        self.assertEqual([self.turns(hall, name) for name in "abcz"], [(1, 2), (2, 3), (3, 4), (1, 4)])

    def test_second_where_another_one_must_be_first(self):
        hall = star(0, 2, (1, 3))
        self.assertEqual([self.turns(hall, name) for name in "abm"], [(2, 2), (1, 1), (3, 3)])

    def test_last_but_one_where_another_one_must_be_last(self):
        # a at the even turn, so b or c behind it; with four all at one kind of turns each
        self.assertEqual([self.turns(star(0, 3, (1, 2, 2)), name) for name in "abc"], [(2, 2), (1, 3), (1, 3)])
        self.assertEqual([self.turns(star(0, 4, (1, 1, 3, 3)), name) for name in "abcx"],
                         [(2, 4), (2, 4), (1, 3), (1, 3)])

    def test_the_lightest_of_those_that_can_be_first(self):
        # a must go second at m; b and c can go first there, b behind three others, c behind one
        hall = (0, (("a", 1, 0), ("b", 0, 0), ("ba", 1, 0), ("bb", 1, 0), ("bc", 1, 0), ("c", 0, 0), ("ca", 1, 0),
                    ("m", 0, 3)),
                (("a", "m", 1), ("b", "ba", 0), ("b", "bb", 0), ("b", "bc", 0), ("b", "m", 2), ("c", "ca", 0),
                 ("c", "m", 2)))
        self.assertEqual(seatings_by_trying(hall, "m"), [("b", "c")])
        self.assertEqual(self.turns(hall, "a")[0], 3)
        self.as_tried(hall)

    def test_the_lightest_of_those_that_can_be_last(self):
        # a must go last but one at m; b, with two others behind it, or c, with one, goes last
        hall = (0, (("a", 1, 0), ("b", 1, 0), ("ba", 0, 0), ("bb", 0, 0), ("c", 1, 0), ("ca", 0, 0), ("m", 0, 3)),
                (("a", "m", 1), ("b", "ba", 0), ("b", "bb", 0), ("b", "m", 2), ("c", "ca", 0), ("c", "m", 2)))
        self.assertEqual(seatings_by_trying(hall, "m"), [("b", "c")])
        self.assertEqual(self.turns(hall, "a")[1], 7 - 3)
        self.as_tried(hall)


class ManyPlaces(Turns):
    def test_one_hangs_on_the_next_along_several_places(self):
        for many in range(4):
            self.as_tried(zigzag(many)[0])
        for many in (1, 2, 5, 11):
            hall, xs, ls = zigzag(many)
            for at in range(many + 1):
                late = 2 * (many - at) if at < many else 1
                self.assertEqual(self.turns(hall, xs[at]), (many - at + 1, late))
            for at in range(many):
                self.assertEqual(self.turns(hall, ls[at]), (many - at + 2, 2 * many + 1))

    def test_a_road_in_one_order(self):
        places = (("a", 1, 0),) + tuple((name, 0, 5) for name in LETTERS[1:])
        hall = (7, places, tuple((one, other, 5) for one, other in zip(LETTERS, LETTERS[1:])))
        for at, name in enumerate(LETTERS):
            self.assertEqual(self.turns(hall, name), (at + 1, at + 1))

    def test_all_free(self):
        hall = (60, tuple((name, 1, 0) for name in LETTERS), ())
        for name in LETTERS:
            self.assertEqual(self.turns(hall, name), (1, 24))

    def test_no_turn_beyond_those_told_in_halls_of_24_places(self):
        halls = [hall for hall, row in some_halls(43, 12, (24,))] + list(halls_by_arrows(47, 20, (24,)))
        for hall in halls + [hall for hall in big_halls() if not bars(hall)][::5]:
            ahead = {name: earlier_by_sides(hall, name) for name, face, number in hall[1]}
            for name in ahead:
                early, late = self.turns(hall, name)
                self.assertGreaterEqual(early, 1 + len(self.must(ahead, name, ahead)))
                later = {other: [one for one in neighbours(hall, other) if other in ahead[one]] for other in ahead}
                self.assertLessEqual(late, 24 - len(self.must(ahead, name, later)))
                self.assertLessEqual(early, late)

    def must(self, names, name, ahead):
        """All that go ahead of it (or behind it) by arrows alone."""
        found = set(ahead[name])
        for turn in names:
            found |= {one for other in found for one in ahead[other]}
        return found

    def test_pieces_of_24_places_hold_each_other_up_no_turn(self):
        # The turns of a piece in a hall with others: as early as alone, and all others behind it at the latest.
        chance = Random(53)
        for turn in range(10):
            one = hall_by_arrows(chance, 7, 5, (0, 1, 2, 3), 6, 0)
            two = hall_by_arrows(chance, 17, 5, (0, 1, 2, 3), 6, 0)
            there = tuple(("z" + name, face, number) for name, face, number in two[1])
            ties = tuple(("z" + name, "z" + other, mirror) for name, other, mirror in two[2])
            both = (5, one[1] + there, one[2] + ties)
            for name, face, number in one[1]:
                early, late = self.turns(one, name)
                self.assertEqual(self.turns(both, name), (early, late + 17))

    def test_wide_places(self):
        # Six earlier ones with one good seating: the even ones second at best, the odd ones last but one at best.
        hall = star(0, 56 - 7, (1, 2, 4, 8, 16, 32))
        self.assertEqual([self.turns(hall, name) for name in "abcxyzm"], [(2, 6)] * 3 + [(1, 5)] * 3 + [(7, 7)])


class Refused(unittest.TestCase):
    def refused(self, hall, bar):
        for ask in (soonest, latest):
            for name, face, number in hall[1]:
                with self.assertRaises(NoWay) as caught:
                    ask(hall, name)
                self.assertEqual(caught.exception.what, bar)
                self.assertIsInstance(caught.exception.what, tuple)

    def test_with_the_first_bar(self):
        self.refused(BARRED, ("even", ["c", "d"]))
        self.refused((0, (("a", 1, 5), ("z", 0, 0)), ()), ("even", ["z"]))
        self.refused((0, (("a", 1, 0), ("y", 1, 5), ("z", 1, 6)), ()), ("seats", "y"))

    def test_all_small_halls_without_a_way(self):
        for hall in small_halls(13):
            if bars(hall):
                self.refused(hall, bars(hall)[0])

    def test_its_list_is_the_asker_s_own(self):
        for turn in range(2):
            for ask in (soonest, latest):
                with self.assertRaises(NoWay) as caught:
                    ask(BARRED, "a")
                self.assertEqual(caught.exception.what, ("even", ["c", "d"]))
                caught.exception.what[1].append("z")


class Told(OwnAnswers, unittest.TestCase):
    ASKS = [(ask, (HALL, name)) for ask in (soonest, latest) for name in "abcmz"]
    NAMES = {"soonest": "hall name", "latest": "hall name"}


if __name__ == "__main__":
    unittest.main()
