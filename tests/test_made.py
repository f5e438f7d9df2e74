import unittest
from copy import deepcopy
from itertools import permutations

from mirrorwood.errors import BadPlace, BadTie
from mirrorwood.halls import is_hall, made
from things import FOUR, is_wood, sets_of_pairs

PLACES = [("c", 1, 12), ("a", 0, -1), ("b", 1, 5)]
TIES = [("c", "b", -2), ("a", "b", 8)]
HALL = (5, (("a", 0, 4), ("b", 1, 0), ("c", 1, 2)), (("a", "b", 3), ("b", "c", 3)))
ABC = [("a", 1, 0), ("b", 1, 0), ("c", 1, 0)]


class Made(unittest.TestCase):
    def test_any_order(self):
        for places in permutations(PLACES):
            for ties in permutations(TIES):
                self.assertEqual(made(5, list(places), list(ties)), HALL)

    def test_two_in_either_order(self):
        turned = [(other, one, mirror) for one, other, mirror in TIES]
        self.assertEqual(made(5, PLACES, turned), HALL)
        self.assertEqual(made(5, PLACES, [TIES[0], turned[1]]), HALL)

    def test_lists_and_tuples(self):
        for places in (PLACES, tuple(PLACES)):
            for ties in (TIES, tuple(TIES)):
                hall = made(5, places, ties)
                self.assertEqual(hall, HALL)
                self.assertIs(is_hall(hall), True)

    def test_by_names(self):
        self.assertEqual(made(ties=TIES, places=PLACES, wheel=5), HALL)

    def test_what_was_made_is_made_again(self):
        self.assertEqual(made(*HALL), HALL)

    def test_wheels(self):
        self.assertEqual(made(0, [("a", 1, -1000000), ("b", 0, 1000000)], [("b", "a", -7)]),
                         (0, (("a", 1, -1000000), ("b", 0, 1000000)), (("a", "b", -7),)))
        self.assertEqual(made(1, [("a", 1, -9), ("b", 0, 9)], [("b", "a", 4)]),
                         (1, (("a", 1, 0), ("b", 0, 0)), (("a", "b", 0),)))
        self.assertEqual(made(60, [("a", 1, -1), ("b", 0, 60)], [("b", "a", 61)]),
                         (60, (("a", 1, 59), ("b", 0, 0)), (("a", "b", 1),)))

    def test_without_places(self):
        for wheel in (0, 1, 60):
            self.assertEqual(made(wheel, [], []), (wheel, (), ()))
            self.assertEqual(made(wheel, (), ()), (wheel, (), ()))

    def test_what_is_handed_in_stays(self):
        places, ties = deepcopy(PLACES), deepcopy(TIES)
        hall = made(5, places, ties)
        self.assertEqual((places, ties), (PLACES, TIES))
        places.clear()
        ties.clear()
        self.assertEqual(hall, HALL)

    def test_what_is_refused_stays(self):
        places, ties = ABC + [("a", 0, 1)], [("a", "z", 9)]
        self.assertRaises(BadPlace, made, 5, places, ties)
        self.assertRaises(BadTie, made, 5, ABC, ties)
        self.assertEqual((places, ties), (ABC + [("a", 0, 1)], [("a", "z", 9)]))


class Refused(unittest.TestCase):
    def bad(self, error, what, places, ties):
        for kind in (list, tuple):
            with self.assertRaises(error) as caught:
                made(5, kind(places), kind(ties))
            self.assertEqual(caught.exception.what, what)
            self.assertNotIsInstance(caught.exception.what, bool)

    def test_a_name_that_was_there(self):
        self.bad(BadPlace, 1, [("a", 1, 0), ("a", 1, 0)], [])
        self.bad(BadPlace, 3, ABC + [("b", 0, 3)], [])
        self.bad(BadPlace, 2, [("b", 1, 0), ("a", 1, 0), ("b", 0, 0), ("a", 1, 0)], [])
        self.bad(BadPlace, 2, [("b", 1, 0), ("a", 1, 0), ("a", 0, 0), ("b", 1, 0)], [])

    def test_a_tie_of_one_place(self):
        self.bad(BadTie, 0, ABC, [("a", "a", 0)])
        self.bad(BadTie, 1, ABC, [("a", "b", 0), ("b", "b", 0), ("c", "c", 0)])
        self.bad(BadTie, 0, ABC, [("z", "z", 0)])

    def test_a_tie_of_a_name_that_is_not_there(self):
        self.bad(BadTie, 0, ABC, [("a", "z", 0)])
        self.bad(BadTie, 0, ABC, [("z", "a", 0)])
        self.bad(BadTie, 2, ABC, [("a", "b", 0), ("b", "c", 0), ("y", "z", 0)])
        self.bad(BadTie, 0, [], [("a", "b", 0)])

    def test_a_tie_of_two_that_hang_together(self):
        self.bad(BadTie, 2, ABC, [("a", "b", 0), ("b", "c", 0), ("c", "a", 0)])
        self.bad(BadTie, 1, ABC, [("a", "b", 0), ("a", "b", 0)])
        self.bad(BadTie, 1, ABC, [("a", "b", 0), ("b", "a", 3), ("b", "c", 0)])

    def test_the_first_of_several(self):
        self.bad(BadTie, 1, ABC, [("b", "c", 0), ("c", "b", 0), ("a", "z", 0), ("a", "a", 0)])
        self.bad(BadTie, 1, ABC, [("b", "c", 0), ("a", "z", 0), ("c", "b", 0), ("a", "a", 0)])
        self.bad(BadTie, 1, ABC, [("b", "c", 0), ("a", "a", 0), ("a", "z", 0), ("c", "b", 0)])

    def test_places_ahead_of_ties(self):
        self.bad(BadPlace, 3, ABC + [("a", 1, 0)], [("a", "z", 0)])
        self.bad(BadPlace, 3, ABC + [("a", 1, 0)], [("a", "a", 0)])

    def test_all_sets_of_ties_of_four_in_several_orders(self):
        places = [(name, 1, 0) for name in FOUR]
        for pairs in sets_of_pairs():
            for row in (pairs, pairs[::-1], pairs[1::2] + pairs[::2]):
                ties = [(other, one, 0) for one, other in row]
                rings = [at for at in range(len(row)) if not is_wood(FOUR, row[:at + 1])]
                if rings:
                    self.bad(BadTie, rings[0], places, ties)
                else:
                    wanted = tuple((one, other, 0) for one, other in sorted(row))
                    self.assertEqual(made(5, places, ties), (5, tuple(places), wanted))


if __name__ == "__main__":
    unittest.main()
