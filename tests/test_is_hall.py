import unittest

from mirrorwood.halls import is_hall
from things import FOUR, ODD_THINGS, is_wood, sets_of_pairs, with_lists_for_tuples, with_truths_for_numbers

PLACES = (("a", 1, 0), ("b", 0, 1), ("c", 1, 4))
TIES = (("a", "b", 1), ("b", "c", 0))
HALL = (5, PLACES, TIES)


class IsHall(unittest.TestCase):
    def hall(self, thing):
        self.assertIs(is_hall(thing), True, thing)

    def none(self, thing):
        self.assertIs(is_hall(thing), False, thing)

    def test_halls(self):
        self.hall(HALL)
        self.hall((5, PLACES, ()))
        self.hall((0, (("a", 0, -12345678),), ()))
        self.hall((0, (("a", 0, -3), ("b", 1, 99)), (("a", "b", -10 ** 9),)))
        self.hall((1, (("abcdefgh", 1, 0), ("z", 0, 0)), (("abcdefgh", "z", 0),)))
        self.hall((5, (("a", 1, 0), ("aa", 1, 0), ("b", 1, 0)), (("a", "b", 0), ("aa", "b", 0))))

    def test_without_places(self):
        for wheel in (0, 1, 7, 60):
            self.hall((wheel, (), ()))
        self.none((5, (), TIES))

    def test_wheels(self):
        for wheel in (61, 100, -1, -60, True, False, None, "5", "", (), (5,), [5]):
            self.none((wheel, (), ()))

    def test_no_bounds_are_looked_at(self):
        names = sorted("x" + one + two for one in "abcdefgh" for two in "abcdefgh")
        places = tuple((name, 1, 0) for name in names)
        self.hall((7, places, ()))
        self.hall((7, places, tuple((names[0], name, 0) for name in names[1:])))
        chain = tuple((low, high, 0) for low, high in zip(names, names[1:]))
        self.hall((7, places, chain))
        self.none((7, places, tuple(sorted(chain + ((names[0], names[-1], 0),)))))

    def test_numbers_that_are_not_counted(self):
        for number in (5, -1, 60, 10 ** 9):
            self.none((5, (("a", 1, number),), ()))
            self.none((5, PLACES, (("a", "b", number),)))
        self.none((1, (("a", 1, 1),), ()))

    def test_true_and_false_are_no_numbers(self):
        wanted = 0
        for thing in with_truths_for_numbers(HALL):
            wanted += 1
            self.none(thing)
        self.assertEqual(wanted, 7)
        for thing in with_truths_for_numbers((1, (("a", 1, 0),), ())):
            self.none(thing)

    def test_lists_are_no_tuples(self):
        wanted = 0
        for thing in with_lists_for_tuples(HALL):
            wanted += 1
            self.none(thing)
        self.assertEqual(wanted, 8)

    def test_faces(self):
        for face in (2, -1, None, "light", (), (1,)):
            self.none((5, (("a", face, 0),), ()))

    def test_numbers_of_other_kinds(self):
        for number in (None, "0", "", (), (0,), []):
            for wheel in (0, 5):
                self.none((wheel, (("a", 1, number),), ()))
                self.none((wheel, (("a", 1, 0), ("b", 1, 0)), (("a", "b", number),)))

    def test_names(self):
        self.hall((5, (("abcdefgh", 1, 0),), ()))
        for name in ("", "abcdefghi", "A", "aB", "a1", "1", "a b", " a", "a\n", "a_", "-", "`", "{", "\u00e9", "\uff41",
                     None, 0, 1, True, (), ("a",), ["a"]):
            self.none((5, ((name, 1, 0),), ()))
            self.none((5, ((name, 1, 0), ("b", 1, 0)), ((name, "b", 0),)))
            self.none((5, (("a", 1, 0), ("b", 1, 0)), (("a", name, 0),)))
            self.none((5, (("a", 1, 0), ("b", 1, 0)), ((name, "b", 0),)))

    def test_places_that_do_not_rise(self):
        self.none((5, (("b", 1, 0), ("a", 1, 0)), ()))
        self.none((5, (("a", 1, 0), ("c", 1, 0), ("b", 1, 0)), ()))

    def test_places_that_stand_twice(self):
        self.none((5, (("a", 1, 0), ("a", 1, 0)), ()))
        self.none((5, (("a", 0, 0), ("a", 1, 0)), ()))
        self.none((5, (("a", 1, 0), ("a", 1, 3), ("b", 0, 0)), ()))

    def test_ties_that_do_not_rise(self):
        self.none((5, PLACES, (("b", "c", 0), ("a", "b", 1))))
        self.none((5, PLACES, (("a", "c", 0), ("a", "b", 1))))

    def test_ties_that_stand_twice(self):
        self.none((5, PLACES, (("a", "b", 1), ("a", "b", 1))))
        self.none((5, PLACES, (("a", "b", 1), ("a", "b", 2))))

    def test_ties_turned_about(self):
        self.none((5, PLACES, (("b", "a", 1),)))
        self.none((5, PLACES, (("a", "b", 1), ("c", "b", 0))))

    def test_ties_of_one_place(self):
        self.none((5, PLACES, (("a", "a", 0),)))
        self.none((5, (("a", 1, 0),), (("a", "a", 0),)))

    def test_ties_of_names_that_are_not_there(self):
        self.none((5, PLACES, (("a", "d", 0),)))
        self.none((5, (("b", 1, 0),), (("a", "b", 0),)))
        self.none((5, PLACES, (("x", "y", 0),)))

    def test_ties_that_close_a_ring(self):
        self.none((5, PLACES, (("a", "b", 0), ("a", "c", 0), ("b", "c", 0))))

    def test_all_sets_of_ties_of_four(self):
        places = tuple((name, 1, 0) for name in FOUR)
        for pairs in sets_of_pairs():
            ties = tuple((one, other, 0) for one, other in pairs)
            self.assertIs(is_hall((5, places, ties)), is_wood(FOUR, pairs), ties)

    def test_a_part_too_much_or_too_few(self):
        for thing in ((), (5,), (5, PLACES), HALL + ((),), HALL + (0,), (HALL,), PLACES, TIES):
            self.none(thing)
        for place in ((), ("a",), ("a", 1), ("a", 1, 0, 0), ("a", (1, 0)), (("a", 1, 0),)):
            self.none((5, (place,), ()))
        for tie in ((), ("a",), ("a", "b"), ("a", "b", 0, 0), (("a", "b"), 0), (("a", "b", 0),)):
            self.none((5, PLACES, (tie,)))

    def test_things_of_every_kind(self):
        for thing in ODD_THINGS:
            self.none(thing)
            self.none((5, PLACES, (thing,)))
            self.assertIs(is_hall((thing, (), ())), repr(thing) in ("0", "1", "7"), thing)
            self.assertIs(is_hall((5, thing, ())), thing in ((), (("a", 1, 0),)), thing)
            self.assertIs(is_hall((5, (thing,), ())), thing == ("a", 1, 0), thing)
            self.assertIs(is_hall((5, PLACES, thing)), thing == (), thing)

    def test_by_name(self):
        self.assertIs(is_hall(thing=HALL), True)


if __name__ == "__main__":
    unittest.main()
