import unittest
from copy import deepcopy

from mirrorwood.halls import card_of, is_hall, laid, made, mirror_of, near, pieces, road
from things import FOUR, joined, woods

# d - b - a - e, c beside b; g - f; h alone
HALL = (7, (("a", 1, 0), ("b", 0, 3), ("c", 1, 6), ("d", 0, 0), ("e", 1, 1), ("f", 0, 2), ("g", 1, 5), ("h", 1, 4)),
        (("a", "b", 1), ("a", "e", 0), ("b", "c", 5), ("b", "d", 6), ("f", "g", 2)))
NAMES = [place[0] for place in HALL[1]]
BARE = (0, (), ())


class Near(unittest.TestCase):
    def test_neighbours_rise(self):
        rows = {"a": ["b", "e"], "b": ["a", "c", "d"], "c": ["b"], "d": ["b"], "e": ["a"],
                "f": ["g"], "g": ["f"], "h": []}
        for name, wanted in rows.items():
            self.assertEqual(near(HALL, name), wanted)
        self.assertEqual(near(name="b", hall=HALL), ["a", "c", "d"])

    def test_rise_on_both_sides(self):
        hall = made(0, [(name, 1, 0) for name in "abcdefg"], [("d", name, 0) for name in "gbfaec"])
        self.assertEqual(near(hall, "d"), ["a", "b", "c", "e", "f", "g"])

    def test_names_of_several_letters(self):
        hall = made(0, [(name, 1, 0) for name in ("a", "ab", "abc", "b")], [("ab", "b", 0), ("a", "ab", 0)])
        self.assertEqual(near(hall, "ab"), ["a", "b"])
        self.assertEqual(near(hall, "a"), ["ab"])
        self.assertEqual(near(hall, "abc"), [])


class MirrorOf(unittest.TestCase):
    def test_in_both_orders(self):
        for one, other, mirror in HALL[2]:
            self.assertEqual(mirror_of(HALL, one, other), mirror)
            self.assertEqual(mirror_of(HALL, other, one), mirror)
        self.assertEqual(mirror_of(other="b", one="d", hall=HALL), 6)

    def test_two_that_are_not_tied(self):
        tied = {(one, other) for one, other, mirror in HALL[2]}
        for one in NAMES:
            for other in NAMES:
                if (one, other) not in tied and (other, one) not in tied:
                    self.assertIsNone(mirror_of(HALL, one, other))


class CardOf(unittest.TestCase):
    def test_each(self):
        for name, face, number in HALL[1]:
            self.assertEqual(card_of(HALL, name), (face, number))
            self.assertIsInstance(card_of(HALL, name), tuple)
        self.assertEqual(card_of(name="c", hall=HALL), (1, 6))


class Pieces(unittest.TestCase):
    def test_all_that_hang_together(self):
        self.assertEqual(pieces(HALL), [["a", "b", "c", "d", "e"], ["f", "g"], ["h"]])
        self.assertEqual(pieces(hall=HALL), pieces(HALL))

    def test_without_places(self):
        self.assertEqual(pieces(BARE), [])

    def test_without_ties(self):
        self.assertEqual(pieces((7, HALL[1], ())), [[name] for name in NAMES])

    def test_pieces_between_each_other(self):
        hall = made(0, [(name, 1, 0) for name in "abcdef"], [("a", "f", 0), ("b", "d", 0), ("c", "e", 0), ("d", "e", 0)])
        self.assertEqual(pieces(hall), [["a", "f"], ["b", "c", "d", "e"]])

    def test_all_woods_of_four(self):
        for pairs in woods():
            hall = made(3, [(name, 0, 1) for name in FOUR], [(one, other, 1) for one, other in pairs])
            sets = joined(FOUR, pairs)
            self.assertEqual(pieces(hall), sorted({tuple(sorted(found)): sorted(found) for found in sets.values()}.values()))


class Road(unittest.TestCase):
    def test_of_one_and_itself(self):
        for name in NAMES:
            self.assertEqual(road(HALL, name, name), [name])

    def test_of_two_that_hang_together(self):
        self.assertEqual(road(HALL, "d", "e"), ["d", "b", "a", "e"])
        self.assertEqual(road(HALL, "e", "d"), ["e", "a", "b", "d"])
        self.assertEqual(road(HALL, "c", "d"), ["c", "b", "d"])
        self.assertEqual(road(HALL, "f", "g"), ["f", "g"])
        self.assertEqual(road(other="f", hall=HALL, one="g"), ["g", "f"])

    def test_of_two_that_do_not(self):
        for one, other in [("a", "f"), ("g", "d"), ("h", "a"), ("f", "h")]:
            self.assertIsNone(road(HALL, one, other))

    def test_all_woods_of_four(self):
        for pairs in woods():
            hall = made(3, [(name, 0, 1) for name in FOUR], [(one, other, 1) for one, other in pairs])
            sets = joined(FOUR, pairs)
            for one in FOUR:
                for other in FOUR:
                    row = road(hall, one, other)
                    if other in sets[one]:
                        self.assertEqual((row[0], row[-1], len(row)), (one, other, len(set(row))))
                        for low, high in zip(row, row[1:]):
                            self.assertIn(tuple(sorted([low, high])), pairs)
                    else:
                        self.assertIsNone(row)

    def test_a_row_of_24(self):
        names = ["abcdefghijklmnopqrstuvwx"[at * 7 % 24] for at in range(24)]
        hall = made(60, [(name, 1, 0) for name in names], [(low, high, 1) for low, high in zip(names, names[1:])])
        self.assertEqual(road(hall, names[0], names[-1]), names)
        self.assertEqual(road(hall, names[-1], names[0]), names[::-1])
        self.assertEqual(pieces(hall), [sorted(names)])


class Laid(unittest.TestCase):
    def test_that_card_there_alone(self):
        for name, face, number in HALL[1]:
            hall = laid(HALL, name, (1 - face, 5))
            self.assertIs(is_hall(hall), True)
            self.assertEqual((hall[0], hall[2]), (HALL[0], HALL[2]))
            for other in NAMES:
                self.assertEqual(card_of(hall, other), (1 - face, 5) if other == name else card_of(HALL, other))
            self.assertEqual(laid(hall, name, (face, number)), HALL)

    def test_the_same_card(self):
        self.assertEqual(laid(HALL, "b", (0, 3)), HALL)

    def test_by_names(self):
        self.assertEqual(laid(card=(0, -9), name="a", hall=(0, (("a", 1, 4),), ())), (0, (("a", 0, -9),), ()))


class ToldLists(unittest.TestCase):
    ASKS = [(near, "b"), (near, "h"), (pieces,), (road, "d", "e"), (road, "a", "a")]

    def test_a_told_list_changed_changes_no_later_answer(self):
        for ask, *more in self.ASKS:
            first = ask(HALL, *more)
            wanted = deepcopy(first)
            for part in first:
                if isinstance(part, list):
                    part.append("z")
            first.append("z")
            second = ask(HALL, *more)
            self.assertEqual(second, wanted)
            self.assertIsNot(first, second)

    def test_no_two_told_lists_are_one(self):
        told = pieces(HALL) + pieces(HALL) + [near(HALL, name) for name in NAMES] + [road(HALL, name, name) for name in NAMES]
        self.assertEqual(len({id(row) for row in told}), len(told))

    def test_kinds(self):
        for ask, *more in self.ASKS:
            self.assertIsInstance(ask(HALL, *more), list)
        for piece in pieces(HALL):
            self.assertIsInstance(piece, list)


if __name__ == "__main__":
    unittest.main()
