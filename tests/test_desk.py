import re
import unittest
from random import Random

from mirrorwood.arrows import arrows
from mirrorwood.desk import run
from mirrorwood.errors import (BadRow, Full, MayNot, NoDeed, NoName, NoTie, NoWay, Ring, Taken)
from mirrorwood.home import bars, good, way_home, why_not
from mirrorwood.mending import least_laid
from mirrorwood.seats import seatings
from mirrorwood.turns import latest, soonest
from mirrorwood.wedging import least_wedged
from mirrorwood.yard import Yard
from things import LETTERS, OwnAnswers, some_halls, star

NAME, FACE, NUMBER = "[a-z]{1,8}", "(light|dark)", "(0|-?[1-9][0-9]{0,5})"
ROWS = [f"(put|lay) {NAME} {FACE} {NUMBER}", f"tie {NAME} {NAME} {NUMBER}", f"cut {NAME} {NAME}",
        f"(drop|go|seats|why|soonest|latest) {NAME}", "undo|arrows|bars|home|good|mend|wedge"]
REFUSALS = (Taken, Full, NoName, Ring, NoTie, MayNot, NoDeed, NoWay)
ASKS = ["arrows", "bars", "home", "good", "mend", "wedge"]
NAMED_ASKS = ["seats", "why", "soonest", "latest"]
# m goes behind a and b, a first
SHEET = ["wheel 0", "put a light 0", "put b light 0", "put m light 3", "tie a m 5", "tie m b 2"]


def first_bad_row(text):
    """The number of the first row that isn't so written, by the words of the document; None without one."""
    rows = text.split("\n")
    seen = False
    for at, row in enumerate(rows):
        if row == "":
            continue
        if not seen:
            if not re.fullmatch("wheel (0|[1-9][0-9]?)", row) or int(row[6:]) > 60:
                return at
        elif not any(re.fullmatch(kind, row) for kind in ROWS):
            return at
        seen = True
    return None if seen else len(rows)


def answer(yard, row):
    """The answer to one row by what a Yard and the files of asks tell."""
    word, *handed = [{"light": 1, "dark": 0}.get(part, part) for part in row.split(" ")]
    handed = [int(part) if re.fullmatch("-?[0-9]+", str(part)) else part for part in handed]
    try:
        if word in ("put", "lay", "tie", "cut", "drop", "go"):
            ties, names = getattr(yard, word)(*handed)
            return "".join(["done", *[f" {one}-{two}" for one, two in ties], *[" " + name for name in names]])
        if word == "undo":
            return yard.undo() or "done"
        if handed and handed[0] not in yard.names():
            return "refused NoName"
        return asked(yard.hall(), word, *handed)
    except REFUSALS as refusal:
        return "refused " + type(refusal).__name__


def asked(hall, word, name=None):
    prices = [(place[0], 1) for place in hall[1]]
    told = {
        "arrows": lambda: " ".join(">".join(pair) for pair in arrows(hall)),
        "seats": lambda: " ".join("+".join(seating) if seating else "0" for seating in seatings(hall, name)),
        "bars": lambda: " / ".join(f"even {' '.join(what)}" if kind == "even" else f"seats {what}"
                                   for kind, what in bars(hall)),
        "home": lambda: " ".join(way_home(hall) or []),
        "good": lambda: " ".join(good(hall)),
        "why": lambda: " ".join(why_not(hall, name) or ["good"]),
        "soonest": lambda: str(soonest(hall, name)[0]),
        "latest": lambda: str(latest(hall, name)[0]),
        "mend": lambda: str(least_laid(hall, prices)[0]),
        "wedge": lambda: str(least_wedged(hall, prices)[0]),
    }[word]()
    return told or "-"


class Desks(unittest.TestCase):
    def answers(self, *rows):
        return run("\n".join(rows))

    def refused(self, row, text):
        self.assertEqual(first_bad_row(text), row, text)
        with self.assertRaises(BadRow) as caught:
            run(text)
        self.assertEqual(caught.exception.what, row, text)


class Answers(Desks):
    def behind(self, *rows):
        """The answers to these rows behind those of the sheet."""
        return self.answers(*SHEET, *rows)[len(SHEET) - 1:]

    def test_deeds(self):
        self.assertEqual(self.answers(*SHEET), ["done", "done", "done", "done a", "done a-m a m"])
        self.assertEqual(self.behind("lay m light -3", "lay m light -3", "lay b dark 0", "undo", "go b", "drop m", "go a"),
                         ["done m", "done", "done a-m b-m a b m", "done", "done m", "done", "done"])
        self.assertEqual(self.behind("cut b m", "undo", "cut m b", "tie b m 7"),
                         ["done a-m a m", "done", "done a-m a m", "done a-m a"])

    def test_no_answer_to_the_wheel(self):
        self.assertEqual(run("wheel 7"), [])
        self.assertEqual(run("\n\nwheel 60\n\n"), [])
        self.assertEqual(run("wheel 0\nundo"), ["refused NoDeed"])

    def test_asks(self):
        self.assertEqual(self.behind("arrows", "seats m", "seats a", "bars", "home", "good"),
                         ["a>m b>m", "a", "0", "-", "a b m", "a"])
        self.assertEqual(self.behind("why a", "why b", "why m", "soonest b", "latest a", "soonest m", "mend", "wedge"),
                         ["good", "seat m", "card", "2", "1", "3", "0", "0"])
        self.assertEqual(self.behind("lay m light 0", "tie m a 0", "bars", "why a"),
                         ["done m", "refused Ring", "seats m", "refused NoWay"])

    def test_why_arrow(self):
        rows = ["wheel 5", "put a light 0", "put m light 0", "put b light 0", "tie a m 4", "tie b m 4"]
        self.assertEqual(self.answers(*rows, "why m", "why b", "seats m", "good")[5:], ["arrow a", "good", "a b", "a b"])

    def test_seatings_of_several(self):
        hall = star(0, 4, [4, 4, 4])
        rows = [f"put {name} {('dark', 'light')[face]} {number}" for name, face, number in hall[1]]
        rows += [f"tie {one} {other} {mirror}" for one, other, mirror in hall[2]]
        self.assertEqual(self.answers("wheel 0", *rows, "seats m")[-1], "a+b a+c b+c")

    def test_nothing_to_tell(self):
        self.assertEqual(self.answers("wheel 7", *ASKS), ["-", "-", "-", "-", "0", "0"])
        self.assertEqual(self.answers("wheel 7", "put a dark 3", *ASKS, "seats a")[1:],
                         ["-", "even a", "-", "-", "1", "1", "-"])
        self.assertEqual(self.answers("wheel 7", "put a light 3", *ASKS, "seats a")[1:],
                         ["-", "seats a", "-", "-", "1", "1", "-"])

    def test_several_bars(self):
        rows = ["wheel 7", "put d light 0", "put c light 0", "put a light 3", "put e dark 0", "tie c d 4", "bars"]
        self.assertEqual(self.answers(*rows)[-1], "even c d / even e / seats a")

    def test_mend_and_wedge(self):
        rows = ["wheel 7", "put a dark 0", "put b dark 1", "put c dark 2", "tie a b 3", "mend", "wedge", "drop c", "mend"]
        self.assertEqual(self.answers(*rows)[4:], ["3", "3", "done", "2"])
        # two light neighbours: one laid dark, or one wedged
        self.assertEqual(self.answers("wheel 1", "put a light 0", "put b light 0", "tie a b 0", "mend", "wedge")[3:], ["1", "1"])
        # three of a road, the one amid light and out of place: it's laid anew, or it's wedged
        rows = ["wheel 7", "put a light 0", "put b light 5", "put c light 0", "tie a b 0", "tie b c 0", "mend", "wedge"]
        self.assertEqual(self.answers(*rows)[5:], ["1", "1"])

    def test_refused(self):
        self.assertEqual(self.behind("put a dark 5", "lay z light 0", "tie a z 0", "tie a b 0", "tie a a 0", "cut a b",
                                     "cut a z", "drop z", "go z", "go m"),
                         ["refused Taken", "refused NoName", "refused NoName", "refused Ring", "refused Ring",
                          "refused NoTie", "refused NoName", "refused NoName", "refused NoName", "refused MayNot"])
        puts = [f"put {name} light 0" for name in LETTERS]
        self.assertEqual(self.answers("wheel 0", *puts, "put z light 0", "put a light 0")[24:],
                         ["refused Full", "refused Taken"])
        ties = [f"tie a {name} 0" for name in "bcdefg"]
        self.assertEqual(self.answers("wheel 0", *puts, *ties, "tie a h 0", "tie h a 0", "tie a b 0")[30:],
                         ["refused Full", "refused Full", "refused Ring"])
        self.assertEqual(self.answers("wheel 0", "undo", "put a light 0", "undo", "undo"),
                         ["refused NoDeed", "done", "done", "refused NoDeed"])

    def test_no_name_ahead_of_no_way(self):
        for word in NAMED_ASKS:
            self.assertEqual(self.answers("wheel 7", "put a dark 0", f"{word} z")[1:], ["refused NoName"])
            self.assertEqual(self.answers("wheel 7", "put a light 0", f"{word} z")[1:], ["refused NoName"])
            self.assertEqual(self.answers("wheel 7", f"{word} a"), ["refused NoName"])
        self.assertEqual(self.answers("wheel 7", "put a dark 0", "why a", "soonest a", "latest a", "seats a")[1:],
                         ["refused NoWay"] * 3 + ["-"])

    def test_refused_deeds_change_nothing(self):
        self.assertEqual(self.behind("put a dark 5", "go m", "home", "undo", "undo", "home"),
                         ["refused Taken", "refused MayNot", "a b m", "done", "done", "-"])

    def test_rows_without_signs_are_passed_over(self):
        rows = ["", "wheel 3", "", "", "put a light 0", "", "home", ""]
        self.assertEqual(self.answers(*rows), ["done", "a"])

    def test_numbers_are_counted(self):
        self.assertEqual(self.answers("wheel 7", "put a light -999999", "put b light 999998", "home", "lay b light 7",
                                      "home")[2:], ["-", "done b", "a b"])
        self.assertEqual(self.answers("wheel 0", "put a light -999999", "put b dark 999999", "tie a b 999999", "bars")[3:],
                         ["seats a"])

    def test_each_name_may_be_a_word(self):
        self.assertEqual(self.answers("wheel 0", "put put light 0", "put wheel dark 0", "tie put wheel 0", "home", "good",
                                      "go put", "go wheel", "home"),
                         ["done", "done", "done wheel", "put wheel", "put", "done wheel", "done", "-"])

    def test_eighty_rows(self):
        rows = ["wheel 60", *[f"put {name} light 0" for name in LETTERS], *["home"] * 27, *[f"go {name}" for name in LETTERS],
                "home", "undo", "home", "good"]
        self.assertEqual(len(rows), 80)
        told = self.answers(*rows)
        self.assertEqual(told[24:51], [" ".join(LETTERS)] * 27)
        self.assertEqual(told[-4:], ["-", "done", "x", "x"])


class BadRows(Desks):
    def test_no_row_has_signs(self):
        self.refused(1, "")
        self.refused(2, "\n")
        self.refused(5, "\n\n\n\n")

    def test_blanks(self):
        for row in (" ", "  ", " wheel 7", "wheel 7 ", "wheel  7", "wheel\t7", "wheel 7\r"):
            self.refused(0, row)
            self.refused(2, "\n\n" + row)
        for row in (" ", "   ", " undo", "undo ", "put  a light 0", "put a light  0", " put a light 0", "put a light 0 "):
            self.refused(1, "wheel 7\n" + row)
            self.refused(3, "wheel 7\nput a light 0\n\n" + row + "\nundo")

    def test_no_wheel_ahead(self):
        for row in ("undo", "put a light 0", "home", "wheel"):
            self.refused(0, row)
            self.refused(0, row + "\nwheel 7")
            self.refused(3, "\n\n\n" + row + "\nwheel 7")

    def test_wheels(self):
        for word in ("61", "-1", "-0", "00", "07", "+7", "", "7 7", "a", "1000000", "0x7", "\u0667", "light"):
            self.refused(0, "wheel " + word)
            self.refused(1, "\nwheel " + word + "\nhome")
        self.refused(1, "wheel 7\nwheel 7")
        self.refused(4, "wheel 7\nput a light 0\n\nhome\nwheel 6\nhome")
        for word in ("0", "1", "60"):
            self.assertEqual(run("wheel " + word + "\nhome"), ["-"])

    def test_each_kind_of_row(self):
        right = {"put": "a light 0", "lay": "a dark -5", "tie": "a b 3", "cut": "a b", "drop": "a", "go": "a", "undo": "",
                 "arrows": "", "seats": "a", "bars": "", "home": "", "good": "", "why": "a", "soonest": "a",
                 "latest": "a", "mend": "", "wedge": ""}
        for word, handed in right.items():
            row = f"{word} {handed}".strip()
            self.assertEqual(len(self.answers("wheel 7", row)), 1)
            words = row.split(" ")
            wrong = [row + " a", row + " 0", row + " ", word.upper(), word + "s", word[:-1], "x " + row, row + "  "]
            wrong += [" ".join(words[:-1])] if handed else [word + " 1"]
            wrong += [" ".join([word, *others]) for others in self.others(words[1:])]
            for other in wrong:
                self.refused(2, f"wheel 7\nundo\n{other}\nundo")
                self.refused(1, f"wheel 7\n{other}\nput a light 00")

    def others(self, handed):
        """The same words but for one that is no such word."""
        for at, word in enumerate(handed):
            if word in ("light", "dark"):
                wrong = ("Light", "1", "0", "", "a", "lights")
            elif word.strip("-").isdigit():
                wrong = ("1000000", "-1000000", "01", "-0", "-01", "+1", "", "-", "a", "1.0", "0x1", "\u0663", "1_0")
            else:
                wrong = ("A", "abcdefghi", "", "1", "a1", "\u00e9", "_", "-a")
            for other in wrong:
                yield handed[:at] + [other] + handed[at + 1:]

    def test_ahead_of_all_answers(self):
        self.refused(3, "wheel 7\ngo z\nundo\nput a light 1000000")
        self.refused(1, "wheel 7\nx\ny")

    def test_names_that_are_not_there_are_so_written(self):
        self.assertEqual(self.answers("wheel 7", "go zzzzzzzz", "why light"), ["refused NoName"] * 2)


class ByChance(Desks):
    def some_row(self, chance):
        names = [chance.choice("abcdm") for turn in range(2)]
        number = chance.choice((0, 0, 0, 1, 3, -2, 999999))
        return chance.choice([
            f"put {names[0]} {chance.choice(('light', 'dark'))} {number}", f"put {names[0]} light 0",
            f"lay {names[0]} {chance.choice(('light', 'dark'))} {number}", f"tie {names[0]} {names[1]} {number}",
            f"tie {names[0]} m {number}", f"cut {names[0]} {names[1]}", f"drop {names[0]}", f"go {names[0]}", "undo", "",
            f"{chance.choice(NAMED_ASKS)} {names[0]}", chance.choice(ASKS), chance.choice(ASKS)])

    def test_sheets_against_a_yard(self):
        found = set()
        for seed in range(150):
            chance = Random(seed)
            wheel = chance.choice((0, 1, 2, 3, 60))
            rows = [f"put {name} light 0" for name in "abm"]
            if seed % 2 == 0:
                low, high = chance.randrange(3), chance.randrange(3)
                rows += [f"tie a m {low}", f"tie m b {high}", f"lay m light {low - high}", "why a", "why b", "why m"]
            rows += [self.some_row(chance) for turn in range(50)]
            yard = Yard(wheel)
            wanted = [answer(yard, row) for row in rows if row]
            self.assertEqual(self.answers(f"wheel {wheel}", *rows), wanted)
            found |= {told if told.startswith("refused") else told.split(" ")[0] for told in wanted}
        self.assertLessEqual({"done", "good", "card", "arrow", "seat", "-", "even", "seats", "0", "1", "2", "3"}, found)
        self.assertLessEqual({"refused " + kind.__name__ for kind in REFUSALS if kind != Full}, found)

    def test_halls_of_24_places(self):
        for hall, row in some_halls(313, 6, (24,)):
            rows = [f"put {name} {('dark', 'light')[face]} {number}" for name, face, number in hall[1]]
            rows += [f"tie {one} {other} {mirror}" for one, other, mirror in hall[2]]
            rows += [f"{word} {name}" for word in NAMED_ASKS for name in row[:2]] + ASKS
            yard = Yard(hall[0])
            self.assertEqual(self.answers(f"wheel {hall[0]}", *rows), [answer(yard, row) for row in rows])

    def test_sheets_with_one_sign_another(self):
        found = []
        chance = Random(317)
        text = "\n".join([*SHEET, "", "lay a dark -12", "cut a m", "undo", *ASKS, *[word + " a" for word in NAMED_ASKS]])
        for turn in range(1500):
            at = chance.randrange(len(text))
            sign = chance.choice(" \n0123456789-+abxyz~A\t") if chance.random() < 0.8 else ""
            other = text[:at] + sign + text[at + chance.randrange(2):]
            row = first_bad_row(other)
            found.append(row is None)
            if row is None:
                rows = [part for part in other.split("\n") if part]
                yard = Yard(int(rows[0][6:]))
                self.assertEqual(run(other), [answer(yard, part) for part in rows[1:]])
            else:
                self.refused(row, other)
        self.assertGreater(found.count(True), 100)
        self.assertGreater(found.count(False), 500)


class Told(OwnAnswers, unittest.TestCase):
    ASKS = [(run, ("\n".join([*SHEET, "home", "good", "bars"]),)), (run, ("wheel 7",))]
    NAMES = {"run": "text"}


if __name__ == "__main__":
    unittest.main()
