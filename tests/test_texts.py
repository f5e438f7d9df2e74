import re
import unittest
from random import Random

from mirrorwood.errors import BadText
from mirrorwood.halls import is_hall
from mirrorwood.texts import hall_in, hall_text
from things import OwnAnswers, big_halls, is_wood, small_halls, some_halls

BARE = (7, (), ())
HALL = (0, (("a", 1, 0), ("b", 0, -12), ("zzzzzzzz", 1, 1000000)), (("a", "b", -1000000), ("b", "zzzzzzzz", 3)))
TEXT = "\n".join(["wheel 0", "place a light 0", "place b dark -12", "place zzzzzzzz light 1000000", "tie a b -1000000",
                  "tie b zzzzzzzz 3"])
NUMBER = "(0|-?[1-9][0-9]*)"
ROWS = [re.compile(f"wheel {NUMBER}"), re.compile(f"place ([a-z]{{1,8}}) (light|dark) {NUMBER}"),
        re.compile(f"tie ([a-z]{{1,8}}) ([a-z]{{1,8}}) {NUMBER}")]


def first_bad_row(text):
    """The number of the first row that can't stand there, by the words of the document; None without one."""
    wheel, names, pairs = 0, [], []
    for at, row in enumerate(text.split("\n")):
        kinds = [kind for kind in range(3) if ROWS[kind].fullmatch(row)]
        if not kinds or (kinds[0] == 0) != (at == 0) or (kinds[0] == 1 and pairs):
            return at
        found = ROWS[kinds[0]].fullmatch(row).groups()
        number = int(found[-1])
        if kinds[0] == 0:
            wheel = number
            if not 0 <= wheel <= 60:
                return at
        elif wheel and not 0 <= number < wheel:
            return at
        elif kinds[0] == 1:
            if names and found[0] <= names[-1]:
                return at
            names.append(found[0])
        else:
            if found[0] >= found[1] or not {*found[:2]} <= {*names} or (pairs and found[:2] <= pairs[-1]):
                return at
            pairs.append(found[:2])
            if not is_wood(names, pairs):
                return at
    return None


class Texts(unittest.TestCase):
    def refused(self, text, row):
        self.assertEqual(first_bad_row(text), row, text)
        with self.assertRaises(BadText) as caught:
            hall_in(text)
        self.assertEqual(caught.exception.what, row, text)

    def rows(self, row, *rows):
        self.refused("\n".join(rows), row)

    def test_told(self):
        self.assertEqual(hall_text(HALL), TEXT)
        self.assertEqual(hall_in(TEXT), HALL)
        self.assertEqual((hall_text(BARE), hall_in("wheel 7")), ("wheel 7", BARE))

    def test_there_and_back(self):
        halls = [*list(small_halls(7))[::41], *big_halls(), *[hall for hall, row in some_halls(283, 40, (3, 9, 24))]]
        for hall in halls:
            text = hall_text(hall)
            self.assertEqual(hall_in(text), hall)
            self.assertIsNone(first_bad_row(text))
        for wheel in range(61):
            self.assertEqual(hall_in(hall_text((wheel, (), ()))), (wheel, (), ()))

    def test_the_text_without_signs(self):
        for text in ("", "\n", "\n\n", "\nwheel 7", " "):
            self.refused(text, 0)

    def test_a_last_line_feed(self):
        self.refused("wheel 7\n", 1)
        self.refused(TEXT + "\n", 6)
        self.refused(TEXT + "\n\n", 6)
        self.refused(TEXT.replace("\n", "\n\n", 1), 1)

    def test_blanks(self):
        rows = TEXT.split("\n")
        for at, row in enumerate(rows):
            for other in (" " + row, row + " ", row.replace(" ", "  ", 1), row.replace(" ", "\t", 1), row + "\r", " ", ""):
                self.rows(at, *rows[:at], other, *rows[at + 1:])

    def test_wheels(self):
        for word in ("61", "60 ", "-1", "-0", "00", "07", "+7", "", "7 7", "a", "1000000", "7.", "0x7", "1_0", "\u0667"):
            self.refused("wheel " + word, 0)
        for row in ("wheel", "Wheel 7", "wheels 7", "7", "place a light 0", "tie a b 0", "wheel7", "wheel 7 place a light 0"):
            self.refused(row, 0)
        self.rows(1, "wheel 7", "wheel 7")
        self.rows(2, "wheel 7", "place a light 0", "wheel 7")
        self.rows(1, "wheel 0", "wheel 1", "place a light 0")

    def test_numbers(self):
        for word in ("-0", "00", "01", "-01", "+1", "", "-", "--1", "1-", "a", "1.0", "1e3", "0x1", "1_0", "\u0663", "True", "None"):
            self.rows(1, "wheel 0", "place a light " + word)
            self.rows(3, "wheel 0", "place a light 0", "place b light 0", "tie a b " + word)
        for word in ("7", "8", "-1", "1000000"):
            self.rows(1, "wheel 7", "place a light " + word)
            self.rows(3, "wheel 7", "place a light 0", "place b light 6", "tie a b " + word)
        self.rows(1, "wheel 1", "place a light 1")
        self.assertEqual(hall_in("wheel 0\nplace a dark -" + "9" * 90), (0, (("a", 0, 1 - 10 ** 90),), ()))

    def test_faces(self):
        for word in ("Light", "lights", "1", "0", "", "dark light", "black", "DARK"):
            self.rows(1, "wheel 0", f"place a {word} 0")

    def test_names(self):
        for word in ("A", "abcdefghi", "", "a1", "a-b", "\u00e9", "a b", "_", "1"):
            self.rows(1, "wheel 0", f"place {word} light 0")
            self.rows(3, "wheel 0", "place a light 0", "place b light 0", f"tie a {word} 0")
            self.rows(3, "wheel 0", "place a light 0", "place b light 0", f"tie {word} b 0")
        self.assertEqual(hall_in("wheel 0\nplace light light 0\nplace tie dark 0")[1], (("light", 1, 0), ("tie", 0, 0)))

    def test_rows_of_places_that_do_not_rise(self):
        self.rows(2, "wheel 0", "place b light 0", "place a light 0")
        self.rows(2, "wheel 0", "place a light 0", "place a light 0")
        self.rows(2, "wheel 0", "place a dark 0", "place a light 1")
        self.rows(3, "wheel 0", "place a light 0", "place c light 0", "place b light 0", "place bb light 0")

    def test_ties_that_can_not_stand(self):
        ahead = ["wheel 9", "place a light 0", "place b light 0", "place c dark 8", "place d dark 0"]
        self.rows(1, "wheel 9", "tie a b 0", *ahead[1:])
        self.rows(2, "wheel 9", "place a light 0", "tie a b 0", "place b light 0")
        self.rows(4, *ahead[:3], "tie a b 0", "place c dark 8")
        self.rows(5, *ahead, "tie b a 0")
        self.rows(5, *ahead, "tie a a 0")
        self.rows(5, *ahead, "tie a e 0")
        self.rows(5, *ahead, "tie A b 0")
        self.rows(6, *ahead, "tie a c 0", "tie a b 0")
        self.rows(6, *ahead, "tie b c 0", "tie a b 0")
        self.rows(6, *ahead, "tie a b 0", "tie a b 0")
        self.rows(6, *ahead, "tie a b 0", "tie a b 1")
        self.rows(7, *ahead, "tie a b 0", "tie a c 0", "tie b c 0", "tie c d 0")
        self.rows(8, *ahead, "tie a b 0", "tie b c 0", "tie c d 0", "")
        self.rows(8, *ahead, "tie a b 0", "tie a d 0", "tie b c 0", "tie c d 0")
        self.rows(5, *ahead, "tie a b 9")

    def test_words_too_few_and_too_many(self):
        for row in ("place", "place a", "place a light", "place a light 0 0", "tie", "tie a", "tie a b", "tie a b 0 0",
                    "pla a light 0", "ties a b 0", "Place c light 0", "go a", "a"):
            self.rows(3, "wheel 0", "place a light 0", "place b light 0", row)

    def test_the_first_of_several(self):
        self.rows(0, "wheel 61", "place a", "tie")
        self.rows(1, "wheel 1", "place a light 1", "place a light 0", "tie a a 0")

    def test_texts_with_one_sign_another(self):
        chance = Random(293)
        found = []
        for hall in [HALL, *[hall for hall, row in some_halls(307, 25, (3, 4, 6))]]:
            text = hall_text(hall)
            for turn in range(120):
                at = chance.randrange(len(text))
                sign = chance.choice(" \n0123456789-+abxyz~A\t") if chance.random() < 0.8 else ""
                other = text[:at] + sign + text[at + chance.randrange(2):]
                row = first_bad_row(other)
                found.append(row is None)
                if row is None:
                    told = hall_in(other)
                    self.assertIs(is_hall(told), True)
                    self.assertEqual(hall_text(told), other)
                else:
                    self.refused(other, row)
        self.assertGreater(found.count(True), 100)
        self.assertGreater(found.count(False), 1000)

    def test_rows_left_out_twice_and_exchanged(self):
        for hall in [HALL, *[hall for hall, row in some_halls(311, 10, (4, 6))]]:
            rows = hall_text(hall).split("\n")
            for one in range(len(rows)):
                for two in range(len(rows)):
                    others = list(rows)
                    others[one], others[two] = others[two], others[one]
                    for text in ("\n".join(others), "\n".join(rows[:one] + rows[one + 1:]), "\n".join(rows[:one] + rows[two:])):
                        row = first_bad_row(text)
                        if row is None:
                            self.assertEqual(hall_text(hall_in(text)), text)
                        else:
                            self.refused(text, row)

    def test_eighty_rows(self):
        names = sorted({one + two for one in "abcdefgh" for two in "abcde"})
        text = "\n".join(["wheel 60", *[f"place {name} light 59" for name in names],
                          *[f"tie {one} {two} 1" for one, two in zip(names, names[1:])]])
        self.assertEqual(len(text.split("\n")), 80)
        self.assertEqual(hall_text(hall_in(text)), text)


class Told(OwnAnswers, unittest.TestCase):
    ASKS = [(hall_text, (HALL,)), (hall_text, (BARE,)), (hall_in, (TEXT,))]
    NAMES = {"hall_text": "hall", "hall_in": "text"}


if __name__ == "__main__":
    unittest.main()
