import unittest

from mirrorwood.cards import counted, is_card, is_free, mirrored
from things import ODD_THINGS, with_lists_for_tuples, with_truths_for_numbers


class Counted(unittest.TestCase):
    def test_without_a_wheel_the_number_itself(self):
        for number in (0, 1, -1, 59, 60, 61, -1000000, 1000000, 10 ** 30):
            self.assertEqual(counted(0, number), number)

    def test_wheel_1_leaves_0(self):
        for number in (0, 1, -1, 7, -1000000, 1000000):
            self.assertEqual(counted(1, number), 0)

    def test_wheel_7(self):
        rows = [(0, 0), (6, 6), (7, 0), (8, 1), (-1, 6), (-7, 0), (-8, 6), (100, 2)]
        for number, left in rows:
            self.assertEqual(counted(7, number), left)

    def test_wheel_60(self):
        rows = [(0, 0), (59, 59), (60, 0), (61, 1), (-1, 59), (-60, 0), (-61, 59), (1000000, 40), (-1000000, 20)]
        for number, left in rows:
            self.assertEqual(counted(60, number), left)

    def test_each_wheel_takes_multiples_off(self):
        for wheel in range(1, 61):
            for number in range(-130, 131):
                left = counted(wheel, number)
                self.assertTrue(0 <= left < wheel)
                self.assertEqual((number - left) // wheel * wheel, number - left)

    def test_by_names(self):
        self.assertEqual(counted(number=-1, wheel=5), 4)


class IsCard(unittest.TestCase):
    def test_cards(self):
        rows = [(0, (1, 0)), (0, (0, -5)), (0, (1, 10 ** 9)), (1, (0, 0)), (1, (1, 0)),
                (7, (1, 6)), (7, (0, 0)), (60, (1, 59)), (60, (0, 0))]
        for wheel, card in rows:
            self.assertIs(is_card(wheel, card), True, (wheel, card))

    def test_numbers_that_are_not_counted(self):
        for wheel, number in [(1, 1), (1, -1), (7, 7), (7, -1), (7, 10 ** 9), (60, 60), (60, -1)]:
            for face in (0, 1):
                self.assertIs(is_card(wheel, (face, number)), False, (wheel, number))

    def test_faces(self):
        for face in (2, -1, None, "light", "", (), [], (1,)):
            self.assertIs(is_card(7, (face, 0)), False, face)

    def test_numbers_of_other_kinds(self):
        for number in (None, "0", "", (), [], (0,)):
            for wheel in (0, 7):
                self.assertIs(is_card(wheel, (1, number)), False, number)

    def test_true_and_false_are_no_numbers(self):
        for wheel in (0, 2, 7):
            for card in ((0, 0), (0, 1), (1, 0), (1, 1)):
                for thing in with_truths_for_numbers(card):
                    self.assertIs(is_card(wheel, thing), False, thing)

    def test_lists_are_no_tuples(self):
        for thing in with_lists_for_tuples((1, 0)):
            self.assertIs(is_card(7, thing), False)

    def test_a_part_too_much_or_too_few(self):
        for thing in ((), (1,), (0,), (1, 0, 0), ((1, 0),), (1, (0,))):
            self.assertIs(is_card(7, thing), False, thing)

    def test_things_of_every_kind(self):
        for wheel in (0, 1, 7, 60):
            for thing in ODD_THINGS:
                self.assertIs(is_card(wheel, thing), False, thing)

    def test_by_names(self):
        self.assertIs(is_card(thing=(1, 3), wheel=4), True)
        self.assertIs(is_card(wheel=3, thing=(1, 3)), False)


class Mirrored(unittest.TestCase):
    def test_both_faces(self):
        self.assertEqual(mirrored(0, (1, 3), 10), (0, 7))
        self.assertEqual(mirrored(0, (0, 3), 10), (1, 7))
        self.assertEqual(mirrored(0, (1, 10), 3), (0, -7))
        self.assertEqual(mirrored(7, (1, 3), 2), (0, 6))
        self.assertEqual(mirrored(7, (0, 0), 0), (1, 0))
        self.assertEqual(mirrored(1, (1, 0), 0), (0, 0))

    def test_a_mirror_that_is_not_counted(self):
        self.assertEqual(mirrored(7, (1, 3), 100), (0, 6))
        self.assertEqual(mirrored(7, (0, 3), -100), (1, 2))

    def test_twice_is_as_it_was(self):
        for wheel in (1, 2, 7, 60):
            for number in range(wheel):
                for face in (0, 1):
                    turned = mirrored(wheel, (face, number), wheel // 2)
                    self.assertIs(is_card(wheel, turned), True)
                    self.assertEqual(turned[0], 1 - face)
                    self.assertEqual(mirrored(wheel, turned, wheel // 2), (face, number))

    def test_by_names(self):
        self.assertEqual(mirrored(mirror=1, card=(0, 4), wheel=5), (1, 2))


class IsFree(unittest.TestCase):
    def test_light_and_dark(self):
        self.assertIs(is_free((1, 0)), True)
        self.assertIs(is_free((0, 0)), False)
        for number in (1, -1, 59):
            self.assertIs(is_free((1, number)), False)
            self.assertIs(is_free((0, number)), False)

    def test_true_is_not_1(self):
        self.assertIs(is_free((True, 0)), False)
        self.assertIs(is_free((1, False)), False)

    def test_by_name(self):
        self.assertIs(is_free(card=(1, 0)), True)


if __name__ == "__main__":
    unittest.main()
