import unittest
from itertools import combinations, product
from random import Random

from mirrorwood.arrows import arrows, earlier, faced, is_odd, later, side, turned
from mirrorwood.halls import is_hall, near, pieces
from things import (FOUR, OwnAnswers, big_halls, earlier_by_sides, is_odd_by_counting, piece_by_joining, small_halls,
                    some_halls, ways_by_trying, woods)

# a - b - c - d with e beside c: odd (a, b, e light); f - g: not odd (both light); h - i: odd; j alone light, k alone dark
HALL = (7, (("a", 1, 0), ("b", 1, 3), ("c", 0, 6), ("d", 0, 0), ("e", 1, 1), ("f", 1, 2), ("g", 1, 5), ("h", 0, 4),
            ("i", 1, 0), ("j", 1, 6), ("k", 0, 0)),
        (("a", "b", 1), ("b", "c", 0), ("c", "d", 5), ("c", "e", 6), ("f", "g", 2), ("h", "i", 3)))
NAMES = [place[0] for place in HALL[1]]
ARROWS = [("a", "b"), ("c", "b"), ("c", "d"), ("e", "c"), ("i", "h")]
BARE = (0, (), ())


def faces(hall):
    return "".join(str(place[1]) for place in hall[1])


def without_faces(hall):
    return (hall[0], [(name, number) for name, face, number in hall[1]], hall[2])


class IsOdd(unittest.TestCase):
    def test_of_no_names(self):
        self.assertIs(is_odd(HALL, []), False)
        self.assertIs(is_odd(HALL, ()), False)
        self.assertIs(is_odd(BARE, []), False)

    def test_all_choices_of_names(self):
        for many in range(5):
            for names in combinations(NAMES, many):
                self.assertIs(is_odd(HALL, list(names)), is_odd_by_counting(HALL, names))
                self.assertIs(is_odd(HALL, names[::-1]), is_odd_by_counting(HALL, names))

    def test_pieces(self):
        self.assertEqual([is_odd(HALL, piece) for piece in pieces(HALL)], [True, False, True, True, False])


class Side(unittest.TestCase):
    def test_both_ends_of_each_tie(self):
        wanted = {"ab": ["a"], "ba": ["b", "c", "d", "e"], "bc": ["a", "b"], "cb": ["c", "d", "e"],
                  "cd": ["a", "b", "c", "e"], "dc": ["d"], "ce": ["a", "b", "c", "d"], "ec": ["e"],
                  "fg": ["f"], "gf": ["g"], "hi": ["h"], "ih": ["i"]}
        for (one, other), names in wanted.items():
            self.assertEqual(side(HALL, one, other), names)

    def test_of_many_halls(self):
        for hall in [*small_halls(101), *big_halls()]:
            for one, other, mirror in hall[2]:
                for low, high in ((one, other), (other, one)):
                    self.assertEqual(side(hall, low, high), piece_by_joining(hall, low, (low, high)))


class Arrows(unittest.TestCase):
    def test_several_pieces_odd_and_not(self):
        self.assertEqual(arrows(HALL), ARROWS)

    def test_without_ties(self):
        self.assertEqual(arrows(BARE), [])
        self.assertEqual(arrows((7, HALL[1], ())), [])

    def test_the_first_one_is_the_one_whose_side_is_odd(self):
        self.assertEqual(arrows((0, (("a", 1, 0), ("b", 0, 0)), (("a", "b", 0),))), [("a", "b")])
        self.assertEqual(arrows((0, (("a", 0, 0), ("b", 1, 0)), (("a", "b", 0),))), [("b", "a")])
        self.assertEqual(arrows((0, (("a", 0, 0), ("b", 0, 0)), (("a", "b", 0),))), [])
        self.assertEqual(arrows((0, (("a", 1, 0), ("b", 1, 0)), (("a", "b", 0),))), [])

    def test_they_rise(self):
        hall = (0, (("a", 0, 0), ("b", 1, 0), ("c", 0, 0), ("d", 1, 0)), (("a", "d", 0), ("b", "c", 0)))
        self.assertEqual(arrows(hall), [("b", "c"), ("d", "a")])

    def test_kinds(self):
        for pair in arrows(HALL):
            self.assertIsInstance(pair, tuple)

    def test_numbers_and_mirrors_tell_nothing(self):
        plain = (0, tuple((name, face, 0) for name, face, number in HALL[1]), tuple((*tie[:2], 9) for tie in HALL[2]))
        self.assertEqual(arrows(plain), ARROWS)

    def test_by_sides_in_many_halls(self):
        for hall in [HALL, *small_halls(11), *big_halls()]:
            names = [place[0] for place in hall[1]]
            wanted = {name: earlier_by_sides(hall, name) for name in names}
            self.assertEqual(arrows(hall), sorted((first, name) for name in names for first in wanted[name]))
            odd = {name for piece in pieces(hall) if is_odd(hall, piece) for name in piece}
            self.assertEqual(len(arrows(hall)), len([tie for tie in hall[2] if tie[0] in odd]))

    def test_they_tell_who_goes_first_in_every_way_home(self):
        halls = [*small_halls(), *[hall for hall, row in some_halls(8, 60, (5, 6))]]
        for hall in halls:
            for row in ways_by_trying(hall):
                self.assertEqual(len(arrows(hall)), len(hall[2]))
                for first, second in arrows(hall):
                    self.assertLess(row.index(first), row.index(second))


class EarlierAndLater(unittest.TestCase):
    def test_of_each(self):
        wanted = {"a": ([], ["b"]), "b": (["a", "c"], []), "c": (["e"], ["b", "d"]), "d": (["c"], []), "e": ([], ["c"]),
                  "f": ([], []), "g": ([], []), "h": (["i"], []), "i": ([], ["h"]), "j": ([], []), "k": ([], [])}
        for name, (ahead, behind) in wanted.items():
            self.assertEqual(earlier(HALL, name), ahead)
            self.assertEqual(later(HALL, name), behind)

    def test_of_many_halls(self):
        for hall in [*small_halls(23), *big_halls()]:
            for name, face, number in hall[1]:
                ahead = earlier_by_sides(hall, name)
                self.assertEqual(earlier(hall, name), ahead)
                if is_odd_by_counting(hall, piece_by_joining(hall, name)):
                    self.assertEqual(later(hall, name), [other for other in near(hall, name) if other not in ahead])
                else:
                    self.assertEqual(later(hall, name), [])


class Turned(unittest.TestCase):
    def test_just_these(self):
        self.assertEqual(faces(HALL), "11001110110")
        self.assertEqual(faces(turned(HALL, ["c"])), "11101110110")
        self.assertEqual(faces(turned(HALL, ["k", "a", "g", "h"])), "01001101111")
        self.assertEqual(faces(turned(HALL, NAMES)), "00110001001")

    def test_numbers_are_as_they_are(self):
        for names in ([], ["b"], ["j", "f"], NAMES):
            self.assertEqual(without_faces(turned(HALL, names)), without_faces(HALL))
            self.assertIs(is_hall(turned(HALL, names)), True)
            self.assertEqual(turned(turned(HALL, names), names), HALL)

    def test_of_no_names(self):
        self.assertEqual(turned(HALL, []), HALL)
        self.assertEqual(turned(HALL, ()), HALL)
        self.assertEqual(turned(BARE, []), BARE)

    def test_a_tuple_for_the_list(self):
        self.assertEqual(turned(HALL, ("d", "a")), turned(HALL, ["a", "d"]))

    def test_names_within_names(self):
        hall = (0, (("a", 1, 0), ("ab", 1, 0), ("b", 1, 0)), ())
        self.assertEqual(faces(turned(hall, ["ab"])), "101")


class Faced(unittest.TestCase):
    def is_faced(self, hall, pairs):
        told = faced(hall, pairs)
        self.assertIs(is_hall(told), True)
        self.assertEqual(without_faces(told), without_faces(hall))
        self.assertEqual(arrows(told), sorted(pairs))
        self.assertTrue(all(is_odd(told, piece) for piece in pieces(told)))
        return told

    def test_in_any_order_and_either_way_about(self):
        pairs = [("h", "i"), ("g", "f"), ("c", "b"), ("e", "c"), ("b", "a"), ("c", "d")]
        wanted = self.is_faced(HALL, pairs)
        self.assertEqual(faces(wanted), "00001011011")
        for turn in range(6):
            self.assertEqual(faced(HALL, pairs[turn:] + pairs[:turn]), wanted)
        self.assertEqual(faced(HALL, tuple(reversed(pairs))), wanted)

    def test_without_ties(self):
        self.assertEqual(faced(BARE, []), BARE)
        self.assertEqual(faced((3, (("a", 0, 2), ("b", 1, 0)), ()), []), (3, (("a", 1, 2), ("b", 1, 0)), ()))

    def test_a_halls_own_arrows(self):
        for hall in [*small_halls(5), *big_halls()]:
            if all(is_odd(hall, piece) for piece in pieces(hall)):
                self.assertEqual(faced(hall, arrows(hall)), hall)

    def test_all_arrows_of_the_woods_of_four(self):
        for pairs in woods():
            hall = (3, tuple((name, 0, at % 3) for at, name in enumerate(FOUR)), tuple((*pair, 2) for pair in pairs))
            found = set()
            for ways in product((1, -1), repeat=len(pairs)):
                told = self.is_faced(hall, [pair[::way] for pair, way in zip(pairs, ways)])
                found.add(faces(told))
            self.assertEqual(len(found), len(list(product((1, -1), repeat=len(pairs)))))
            self.assertEqual(found, self.faces_of_odd_pieces(hall))

    def faces_of_odd_pieces(self, hall):
        found = set()
        for row in product((0, 1), repeat=4):
            other = (hall[0], tuple((name, face, 0) for name, face in zip(FOUR, row)), hall[2])
            if all(is_odd(other, piece) for piece in pieces(other)):
                found.add(faces(other))
        return found

    def test_halls_of_24_places(self):
        chance = Random(7)
        for hall in big_halls():
            pairs = [tie[:2][::chance.choice((1, -1))] for tie in hall[2]]
            chance.shuffle(pairs)
            self.is_faced(hall, pairs)


class Told(OwnAnswers, unittest.TestCase):
    PAIRS = [("f", "g"), ("i", "h"), ("a", "b"), ("d", "c"), ("b", "c"), ("c", "e")]
    ASKS = [(is_odd, (HALL, ["a", "b"])), (side, (HALL, "a", "b")), (side, (HALL, "b", "a")), (arrows, (HALL,)),
            (arrows, (BARE,)), *[(ask, (HALL, name)) for ask in (earlier, later) for name in "abcfk"],
            (turned, (HALL, ["c", "a"])), (turned, (HALL, [])), (faced, (HALL, PAIRS)), (faced, (BARE, []))]
    NAMES = {"is_odd": "hall names", "side": "hall one other", "arrows": "hall", "earlier": "hall name",
             "later": "hall name", "turned": "hall names", "faced": "hall arrows"}


if __name__ == "__main__":
    unittest.main()
