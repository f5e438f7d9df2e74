import unittest
from math import factorial
from random import Random

from mirrorwood.counts import number_of, way_at, ways
from mirrorwood.errors import NoNumber
from mirrorwood.home import way_home
from things import (LETTERS, OwnAnswers, hall_by_arrows, halls_by_arrows, small_halls, some_halls, star,
                    ways_by_trying)

BARE = (7, (), ())
HALL = (0, (("a", 1, 0), ("b", 1, 0), ("m", 1, 0), ("z", 1, 0)), (("a", "m", 2), ("b", "m", 2)))
ROWS = [["a", "b", "m", "z"], ["a", "b", "z", "m"], ["a", "z", "b", "m"], ["b", "a", "m", "z"],
        ["b", "a", "z", "m"], ["b", "z", "a", "m"], ["z", "a", "b", "m"], ["z", "b", "a", "m"]]


class Counts(unittest.TestCase):
    def as_tried(self, hall):
        rows = ways_by_trying(hall)
        self.assertEqual(rows, sorted(rows))
        self.assertEqual(ways(hall), len(rows), hall)
        step = 1 if len(rows) < 40 else len(rows) // 20
        for number in {*range(0, len(rows), step), max(0, len(rows) - 1)} if rows else ():
            self.assertEqual(way_at(hall, number), rows[number], (hall, number))
            self.assertEqual(number_of(hall, rows[number]), number, (hall, number))
        for number in (-1, -len(rows) - 1, len(rows), len(rows) + 1):
            self.refused(hall, number)
        return len(rows)

    def refused(self, hall, number):
        with self.assertRaises(NoNumber) as caught:
            way_at(hall, number)
        self.assertEqual(caught.exception.what, number)

    def test_each_number(self):
        self.assertEqual(ways(HALL), 8)
        self.assertEqual([way_at(HALL, number) for number in range(8)], ROWS)
        self.assertEqual([number_of(HALL, row) for row in ROWS], list(range(8)))

    def test_all_small_halls(self):
        found = [self.as_tried(hall) for hall in small_halls(5)]
        self.assertEqual(max(found), 24)
        self.assertGreater(found.count(0), 1000)

    def test_halls_of_five_to_eight_places(self):
        for hall in halls_by_arrows(59, 120, (5, 6, 7)):
            self.assertGreater(self.as_tried(hall), 0)
        for hall, row in some_halls(61, 40, (5, 6, 7, 8)):
            rows = ways_by_trying(hall)
            self.assertEqual((ways(hall), way_at(hall, number_of(hall, row))), (len(rows), row))
            self.assertEqual(rows[number_of(hall, row)], row)

    def test_the_first_one_is_the_least_way_home(self):
        for hall in halls_by_arrows(67, 60, (8,)):
            self.assertEqual(way_at(hall, 0), way_home(hall))
            self.assertEqual(number_of(hall, way_at(hall, ways(hall) - 1)), ways(hall) - 1)

    def test_eight_places_all_free(self):
        hall = (60, tuple((name, 1, 0) for name in LETTERS[:8]), ())
        self.assertEqual(ways(hall), factorial(8))
        self.assertEqual(way_at(hall, 0), list("abcdefgh"))
        self.assertEqual(way_at(hall, 40319), list("hgfedcba"))
        self.assertEqual(way_at(hall, 5040), list("bacdefgh"))
        self.assertEqual(number_of(hall, list("hgfedcab")), 40318)
        self.refused(hall, 40320)

    def test_eight_places_as_one_road(self):
        places = (("a", 1, 0),) + tuple((name, 0, 5) for name in LETTERS[1:8])
        hall = (7, places, tuple((one, other, 5) for one, other in zip(LETTERS[:8], LETTERS[1:8])))
        self.assertEqual((ways(hall), way_at(hall, 0), number_of(hall, list("abcdefgh"))), (1, list("abcdefgh"), 0))

    def test_stars(self):
        self.assertEqual(ways(star(0, 0, [9] * 6)), factorial(6))
        self.assertEqual(ways(star(0, 56 - 7, [1, 2, 4, 8, 16, 32])), 36)
        self.assertEqual(ways(star(0, 1, [1, 2, 4, 8, 16, 32])), 0)
        for mirrors in [(1,), (1, 2), (1, 2, 2), (0, 1, 0, 1), (0, 1, 1, 2, 4)]:
            for number in range(5):
                self.as_tried(star(5, number, mirrors))

    def test_without_places(self):
        for wheel in (0, 1, 7):
            hall = (wheel, (), ())
            self.assertEqual((ways(hall), way_at(hall, 0), number_of(hall, []), number_of(hall, ())), (1, [], 0, 0))
            for number in (-2, -1, 1, 2):
                self.refused(hall, number)

    def test_without_a_way_home(self):
        for hall in [(0, (("a", 0, 0),), ()), (3, (("a", 1, 1), ("b", 1, 0)), ()), star(0, 3, (1, 2))]:
            self.assertEqual(ways(hall), 0)
            for number in (-1, 0, 1, 10 ** 30):
                self.refused(hall, number)

    def test_numbers_beyond(self):
        for number in (-1, -8, 8, 9, 1000000, -10 ** 40, 10 ** 40):
            self.refused(HALL, number)

    def test_a_tuple_for_the_row(self):
        for number, row in enumerate(ROWS):
            self.assertEqual(number_of(HALL, tuple(row)), number)

    def test_seven_places_of_one_seating_each(self):
        chance = Random(71)
        for turn in range(30):
            self.as_tried(hall_by_arrows(chance, 7, 0, (1, 2, 4, 8, 16, 32, 64), 6, 0))


class Told(OwnAnswers, unittest.TestCase):
    ASKS = [(ways, (HALL,)), *[(way_at, (HALL, number)) for number in range(8)], (number_of, (HALL, ROWS[5])),
            (number_of, (HALL, tuple(ROWS[5]))), (way_at, (BARE, 0)), (number_of, (BARE, []))]
    NAMES = {"ways": "hall", "way_at": "hall number", "number_of": "hall row"}


if __name__ == "__main__":
    unittest.main()
