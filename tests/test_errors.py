import inspect
import unittest

from mirrorwood import errors

BASES = {
    ValueError: ["BadPlace", "BadTie", "BadText", "BadRow", "MayNot", "Ring", "Full"],
    LookupError: ["NoName", "NoTie", "NoNumber", "NoDeed"],
    RuntimeError: ["NoWay", "Taken"],
}
CLASSES = [(base, getattr(errors, name)) for base, names in BASES.items() for name in names]
WHATS = [None, 0, 3, -1, 10 ** 5000, "a", [], ["a", "b"], ("card",), ("even", ["a", "b"]), ("seats", "a")]


class Errors(unittest.TestCase):
    def test_there_are_just_thirteen(self):
        own = [name for name, found in inspect.getmembers(errors, inspect.isclass)]
        self.assertEqual(sorted(own), sorted(sum(BASES.values(), [])))
        self.assertEqual(len(own), 13)

    def test_each_is_straight_under_its_base(self):
        for base, made in CLASSES:
            self.assertEqual(made.__bases__, (base,), made)

    def test_none_is_under_another(self):
        for base, made in CLASSES:
            for other_base, other in CLASSES:
                self.assertEqual(issubclass(made, other), made == other)
                self.assertEqual(issubclass(made, other_base), base == other_base)

    def test_made_by_place_and_by_name(self):
        for base, made in CLASSES:
            for what in WHATS:
                self.assertEqual(made(what).what, what)
                self.assertEqual(made(what=what).what, what)

    def test_the_field_keeps_its_kind(self):
        for base, made in CLASSES:
            self.assertIs(made(True).what, True)
            self.assertIsInstance(made(("even", ["a"])).what, tuple)
            self.assertIsInstance(made(("even", ["a"])).what[1], list)

    def test_what_is_the_one_field(self):
        for base, made in CLASSES:
            self.assertEqual(vars(made("a")), {"what": "a"})

    def test_what_is_always_handed_in(self):
        for base, made in CLASSES:
            self.assertRaises(TypeError, made)
            self.assertRaises(TypeError, made, 1, 2)
            self.assertRaises(TypeError, made, other=1)

    def test_raised_and_caught_by_base(self):
        for base, made in CLASSES:
            with self.assertRaises(base) as caught:
                raise made(["a"])
            self.assertEqual(caught.exception.what, ["a"])
            self.assertIsInstance(str(caught.exception), str)

    def test_a_list_handed_in_is_not_kept(self):
        for base, made in CLASSES:
            names = ["a"]
            plain, within, deeper = made(names), made(("even", names)), made([names])
            names.append("b")
            self.assertEqual(plain.what, ["a"])
            self.assertEqual(within.what, ("even", ["a"]))
            self.assertEqual(deeper.what, [["a"]])


if __name__ == "__main__":
    unittest.main()
