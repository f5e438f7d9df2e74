import unittest
from copy import deepcopy
from random import Random

from mirrorwood.errors import Full, MayNot, NoDeed, NoName, NoTie, Ring, Taken
from mirrorwood.halls import made
from mirrorwood.home import way_home
from mirrorwood.yard import Yard
from things import (LETTERS, ODD_THINGS, big_halls, earlier_by_sides, halls_by_arrows, joined, lists_within, neighbours,
                    on_wheel, seatings_by_trying, spoilt)

NAMES = "a b c d e f".split()
METHODS = ("put lay tie cut drop go do undo hall gone_row deeds as_of twin log has names "
           "__init__ __len__ __eq__ __repr__").split()


def arrows_by_sides(hall):
    """Of each tie who goes first by the words of the document; None in a piece that isn't odd."""
    told = {tie[:2]: None for tie in hall[2]}
    for name, face, number in hall[1]:
        for other in earlier_by_sides(hall, name):
            told[min(name, other), max(name, other)] = other
    return told


def told_by_words(hall, anew):
    """What a deed tells that makes the one hall the other."""
    ahead, behind = arrows_by_sides(hall), arrows_by_sides(anew)
    names = sorted({place[0] for place in hall[1]} & {place[0] for place in anew[1]})
    return (sorted(pair for pair in ahead if pair in behind and ahead[pair] != behind[pair]),
            [name for name in names if seatings_by_trying(hall, name) != seatings_by_trying(anew, name)])


def way_between(pairs, one, other):
    """The names from one to other, tie by tie, by going all ways on; None where there is none."""
    rows = [[one]]
    for row in rows:
        if row[-1] == other:
            return row
        for pair in pairs:
            if row[-1] in pair:
                end = pair[0] if pair[1] == row[-1] else pair[1]
                if end not in row:
                    rows.append(row + [end])
    return None


class Plain:
    """A yard by the words of the document: plain dicts, all of them copied at each deed."""

    def __init__(self, wheel):
        self.wheel = wheel
        self.past = [({}, {}, [])]
        self.log = []

    def hall(self, state=None):
        cards, ties, row = state or self.past[-1]
        places = [(name, *cards[name]) for name in reversed(list(cards))]
        return made(self.wheel, places, [(two, one, ties[one, two]) for one, two in ties])

    def refusal(self, state, word, handed):
        """The class and the what of the refusal that is due; None without one."""
        cards, ties, row = state
        names = handed[:2] if word in ("tie", "cut") else handed[:1]
        if word == "put":
            if names[0] in cards:
                return Taken, names[0]
            return (Full, names[0]) if len(cards) == 24 else None
        for name in names:
            if name not in cards:
                return NoName, name
        if word == "tie":
            way = way_between(list(ties), *names)
            if way is not None:
                return Ring, way
            for name in names:
                if len([pair for pair in ties if name in pair]) == 6:
                    return Full, name
        if word == "cut" and tuple(sorted(names)) not in ties:
            return NoTie, None
        if word == "go" and cards[names[0]] != (1, 0):
            return MayNot, names[0]
        return None

    def behind(self, state, word, handed):
        cards, ties, row = deepcopy(state)
        if word in ("put", "lay"):
            cards[handed[0]] = (handed[1], on_wheel(self.wheel, handed[2]))
        if word == "tie":
            ties[tuple(sorted(handed[:2]))] = on_wheel(self.wheel, handed[2])
        if word == "cut":
            del ties[tuple(sorted(handed))]
        if word == "go":
            row.append(handed[0])
            for pair in ties:
                if handed[0] in pair:
                    other = pair[0] if pair[1] == handed[0] else pair[1]
                    face, number = cards[other]
                    cards[other] = (1 - face, on_wheel(self.wheel, ties[pair] - number))
        if word in ("drop", "go"):
            del cards[handed[0]]
            ties = {pair: ties[pair] for pair in ties if handed[0] not in pair}
        return cards, ties, row

    def steps(self, deeds):
        """The state behind all these deeds, what they tell, and the refusal."""
        state, told = self.past[-1], []
        for word, *handed in deeds:
            self.log.append(("in", word))
            refused = self.refusal(state, word, handed)
            self.log.append(("out", word))
            if refused is not None:
                return None, None, refused
            anew = self.behind(state, word, handed)
            told.append(told_by_words(self.hall(state), self.hall(anew)))
            state = anew
        return state, told, None


class Yards(unittest.TestCase):
    def agrees(self, yard, plain):
        hall = plain.hall()
        self.assertEqual(yard.hall(), hall)
        self.assertEqual(yard.names(), [place[0] for place in hall[1]])
        self.assertEqual(len(yard), len(hall[1]))
        self.assertEqual(yard.gone_row(), plain.past[-1][2])
        self.assertEqual(yard.deeds(), len(plain.past) - 1)
        self.assertEqual(yard.log(), plain.log)
        self.assertEqual(repr(yard), f"Yard({plain.wheel}, {len(hall[1])})")

    def refused(self, what, kind, act, *handed):
        with self.assertRaises(kind) as caught:
            act(*handed)
        self.assertEqual(caught.exception.what, what)

    def deed(self, yard, plain, word, *handed):
        """One deed of both; whether it was done."""
        state, told, refusal = plain.steps([(word, *handed)])
        if refusal is not None:
            self.refused(refusal[1], refusal[0], getattr(yard, word), *handed)
        else:
            self.assertEqual(getattr(yard, word)(*handed), told[0], (plain.past[-1], word, handed))
            plain.past.append(state)
        self.agrees(yard, plain)
        return refusal is None

    def do(self, yard, plain, deeds):
        plain.log.append(("in", "do"))
        state, told, refusal = plain.steps(deeds)
        plain.log.append(("out", "do"))
        if refusal is not None:
            self.refused(refusal[1], refusal[0], yard.do, deeds)
        else:
            self.assertEqual(yard.do(deeds), told)
            plain.past.append(state)
        self.agrees(yard, plain)
        return refusal is None

    def undo(self, yard, plain):
        plain.log += [("in", "undo"), ("out", "undo")]
        if len(plain.past) == 1:
            self.refused(None, NoDeed, yard.undo)
        else:
            self.assertIsNone(yard.undo())
            plain.past.pop()
        self.agrees(yard, plain)

    def some_deed(self, chance, wheel, state):
        """A deed that may be done or refused, goings that can be more often than by chance."""
        cards, ties, row = state
        free = [name for name in cards if cards[name] == (1, 0)]
        number = chance.choice((0, 0, 0, 1, 2, -1, wheel, 7, 10 ** 12))
        word = chance.choice(("put", "put", "put", "lay", "lay", "tie", "tie", "tie", "cut", "drop", "go"))
        wanted = [name for name in NAMES if (name in cards) != (word == "put")] if chance.random() < 0.85 else NAMES
        names = [chance.choice(wanted or NAMES), chance.choice(wanted or NAMES)]
        if word in ("put", "lay"):
            return (word, names[0], chance.randrange(2), number)
        if word == "tie":
            return (word, *names, number)
        if word == "cut":
            return (word, *(chance.choice(list(ties))[::chance.choice((1, -1))] if ties and chance.random() < 0.5 else names))
        return (word, chance.choice(free) if word == "go" and free and chance.random() < 0.7 else names[0])


class ByChance(Yards):
    def test_deeds_against_a_hall_made_anew(self):
        done = 0
        sizes = []
        for seed in range(120):
            chance = Random(seed)
            wheel = chance.choice((0, 1, 2, 3, 7, 60))
            yard, plain = Yard(wheel), Plain(wheel)
            self.agrees(yard, plain)
            if seed % 2 == 0:
                self.do(yard, plain, [("put", name, chance.randrange(2), chance.randrange(3)) for name in NAMES])
                for name, other in zip(NAMES, "faabbd"):
                    self.deed(yard, plain, "tie", name, other, chance.randrange(3))
            for turn in range(60):
                kind = chance.random()
                if kind < 0.1:
                    self.undo(yard, plain)
                elif kind < 0.2:
                    deeds = [self.some_deed(chance, wheel, plain.past[-1]) for at in range(chance.randrange(5))]
                    done += self.do(yard, plain, chance.choice((list, tuple))(deeds))
                elif kind < 0.25:
                    yard, plain = self.as_of(yard, plain, chance.randrange(-2, len(plain.past) + 2), chance)
                else:
                    done += self.deed(yard, plain, *self.some_deed(chance, wheel, plain.past[-1]))
                sizes.append(len(yard.hall()[2]))
        self.assertGreater(done, 2000)
        self.assertGreater(len([many for many in sizes if many > 2]), 500)

    def as_of(self, yard, plain, many, chance):
        """The yard as of that many deeds or the yard itself: they go on apart."""
        if not 0 <= many < len(plain.past):
            self.refused(None, NoDeed, yard.as_of, many)
            self.agrees(yard, plain)
            return yard, plain
        other, apart = yard.as_of(many), Plain(plain.wheel)
        apart.past = deepcopy(plain.past[:many + 1])
        self.agrees(other, apart)
        self.agrees(yard, plain)
        for one, two in chance.sample([(yard, plain), (other, apart)], 2):
            self.undo(one, two)
            self.deed(one, two, *self.some_deed(chance, two.wheel, two.past[-1]))
            self.agrees(yard, plain)
            self.agrees(other, apart)
        return chance.choice(((yard, plain), (other, apart)))

    def test_deeds_of_big_halls(self):
        # Each hall of 24 places is put together, then changed here and there.
        for at, hall in enumerate([*list(big_halls())[3:30:9], *halls_by_arrows(277, 2, (24,))]):
            chance = Random(at)
            yard = Yard(hall[0])
            self.assertEqual(yard.do([("put", *place) for place in hall[1]])[0], ([], []))
            yard.do(tuple(("tie", *tie) for tie in hall[2]))
            self.assertEqual(yard.hall(), hall)
            for name in chance.sample([place[0] for place in hall[1]], 6):
                ahead = yard.hall()
                told = yard.lay(name, chance.randrange(2), chance.randrange(3))
                self.assertEqual(told, told_by_words(ahead, yard.hall()))
            for tie in chance.sample(hall[2], min(5, len(hall[2]))):
                ahead = yard.hall()
                self.assertEqual(yard.cut(*tie[:2]), told_by_words(ahead, yard.hall()))
            ahead = yard.hall()
            self.assertEqual(yard.drop("m" if yard.has("m") else ahead[1][5][0]), told_by_words(ahead, yard.hall()))
            while yard.deeds() > 2:
                yard.undo()
            self.assertEqual(yard.hall(), hall)

    def test_ways_home_gone_in_a_yard(self):
        for hall in halls_by_arrows(281, 12, (5, 9, 24)):
            yard = Yard(hall[0])
            yard.do([*[("put", *place) for place in hall[1]], *[("tie", *tie) for tie in hall[2]]])
            row = way_home(hall)
            for name in row:
                ahead = yard.hall()
                told = yard.go(name)
                # A good going turns no arrow: it leaves all that are left as they were.
                self.assertEqual(told[0], [])
                self.assertEqual(told, told_by_words(ahead, yard.hall()))
            self.assertEqual((yard.hall(), yard.gone_row()), ((hall[0], (), ()), row))


class Deeds(Yards):
    def test_what_each_tells(self):
        yard = Yard(0)
        self.assertEqual(yard.put("a", 1, 0), ([], []))
        self.assertEqual(yard.put("b", 1, 0), ([], []))
        self.assertEqual(yard.put("m", 1, 3), ([], []))
        # a has no seating any more, in a piece that isn't odd
        self.assertEqual(yard.tie("m", "a", 5), ([], ["a"]))
        # it's odd now: the tie there ahead has an arrow, b the seating that it had
        self.assertEqual(yard.tie("b", "m", 2), ([("a", "m")], ["a", "m"]))
        self.assertEqual(yard.cut("m", "b"), ([("a", "m")], ["a", "m"]))
        yard.undo()
        self.assertEqual(yard.drop("b"), ([("a", "m")], ["a", "m"]))
        yard.undo()
        self.assertEqual(yard.lay("m", 1, 3), ([], []))
        self.assertEqual(yard.lay("m", 1, -3), ([], ["m"]))
        self.assertEqual(yard.lay("b", 0, 0), ([("a", "m"), ("b", "m")], ["a", "b", "m"]))
        self.assertEqual(yard.lay("a", 0, 0), ([("a", "m"), ("b", "m")], []))
        # m goes ahead of both by now: the other tie's arrow stays
        self.assertEqual(yard.cut("b", "m"), ([], []))
        self.assertEqual(yard.drop("m"), ([], []))
        self.assertEqual(yard.hall(), (0, (("a", 0, 0), ("b", 0, 0)), ()))

    def test_a_pair_of_lists(self):
        told = Yard(0).put("a", 1, 0)
        self.assertIsInstance(told, tuple)
        self.assertEqual([type(part) for part in told], [list, list])

    def test_go_tells_and_mirrors(self):
        yard = Yard(0)
        yard.do([("put", "a", 1, 0), ("put", "b", 1, 0), ("put", "m", 1, 3), ("tie", "a", "m", 5), ("tie", "b", "m", 2)])
        self.assertEqual(yard.go("b"), ([], ["m"]))
        self.assertEqual(yard.hall(), (0, (("a", 1, 0), ("m", 0, -1)), (("a", "m", 5),)))
        yard.undo()
        self.assertEqual(yard.go("a"), ([], ["m"]))
        self.assertEqual(yard.go("b"), ([], ["m"]))
        self.assertEqual(yard.hall(), (0, (("m", 1, 0),), ()))

    def test_numbers_and_mirrors_are_counted(self):
        yard = Yard(7)
        yard.put("a", 1, -1)
        yard.put("b", 0, 10 ** 20)
        yard.tie("b", "a", -10)
        yard.lay("b", 1, 21)
        self.assertEqual(yard.hall(), (7, (("a", 1, 6), ("b", 1, 0)), (("a", "b", 4),)))
        yard = Yard(0)
        yard.put("a", 1, -10 ** 20)
        self.assertEqual(yard.hall(), (0, (("a", 1, -10 ** 20),), ()))

    def test_a_card_laid_as_it_was(self):
        yard = Yard(7)
        yard.put("a", 1, 3)
        for number in (3, 10, -4):
            self.assertEqual(yard.lay("a", 1, number), ([], []))
        self.assertEqual((yard.deeds(), yard.hall()), (4, (7, (("a", 1, 3),), ())))

    def test_drop_mirrors_no_card(self):
        yard = Yard(0)
        yard.do([("put", "a", 1, 0), ("put", "b", 0, 4), ("tie", "a", "b", 4)])
        self.assertEqual(yard.drop("a"), ([], ["b"]))
        self.assertEqual((yard.hall(), yard.gone_row()), ((0, (("b", 0, 4),), ()), []))

    def test_by_their_names(self):
        yard = Yard(wheel=7)
        yard.put(number=0, face=1, name="a")
        yard.put(name="b", face=0, number=5)
        yard.lay(face=1, name="b", number=3)
        yard.tie(mirror=3, other="b", one="a")
        yard.cut(other="a", one="b")
        yard.go(name="a")
        yard.drop(name="b")
        self.assertEqual(yard.do(deeds=[("put", "z", 1, 0)]), [([], [])])
        self.assertEqual(yard.as_of(many=1).names(), ["a"])
        self.assertIs(yard.has(thing="z"), True)

    def test_each_method_stands_in_the_class_itself(self):
        for method in METHODS:
            self.assertIn(method, vars(Yard))


class Refusals(Yards):
    def stays(self, yard, what, kind, word, *handed):
        """The refusal, and that nothing but the log is changed by it, alone and as the last one of a do."""
        ahead = (yard.hall(), yard.names(), yard.gone_row(), yard.deeds(), yard.log())
        self.refused(what, kind, getattr(yard, word), *handed)
        self.assertEqual((yard.hall(), yard.names(), yard.gone_row(), yard.deeds()), ahead[:4])
        self.assertEqual(yard.log(), ahead[4] + [("in", word), ("out", word)])
        self.refused(what, kind, yard.do, [("lay", "a", 0, 5), ("lay", "a", 1, 6), (word, *handed), ("drop", "a")])
        self.assertEqual((yard.hall(), yard.names(), yard.gone_row(), yard.deeds()), ahead[:4])

    def full(self):
        """24 places; a and b of six ties each, apart; c and d tied to none."""
        yard = Yard(0)
        yard.do([("put", name, 1, 0) for name in LETTERS])
        yard.do([("tie", "a", name, 0) for name in "efghij"] + [("tie", name, "b", 0) for name in "klmnop"])
        return yard

    def test_taken_ahead_of_full(self):
        yard = self.full()
        self.stays(yard, "a", Taken, "put", "a", 1, 0)
        self.stays(yard, "x", Taken, "put", "x", 0, 5)
        self.stays(yard, "y", Full, "put", "y", 1, 0)
        yard.drop("x")
        self.stays(yard, "a", Taken, "put", "a", 1, 0)
        self.assertEqual(yard.put("y", 1, 0), ([], []))
        self.stays(yard, "x", Full, "put", "x", 1, 0)

    def test_no_name(self):
        yard = self.full()
        self.stays(yard, "z", NoName, "lay", "z", 1, 0)
        self.stays(yard, "z", NoName, "drop", "z")
        self.stays(yard, "z", NoName, "go", "z")
        for word, more in (("tie", (3,)), ("cut", ())):
            self.stays(yard, "z", NoName, word, "z", "y", *more)
            self.stays(yard, "y", NoName, word, "y", "z", *more)
            self.stays(yard, "z", NoName, word, "z", "a", *more)
            self.stays(yard, "z", NoName, word, "a", "z", *more)
            self.stays(yard, "z", NoName, word, "z", "z", *more)

    def test_ring_with_the_road_ahead_of_full(self):
        yard = self.full()
        self.stays(yard, ["a", "e"], Ring, "tie", "a", "e", 0)
        self.stays(yard, ["e", "a"], Ring, "tie", "e", "a", 0)
        self.stays(yard, ["e", "a", "j"], Ring, "tie", "e", "j", 0)
        self.stays(yard, ["a"], Ring, "tie", "a", "a", 0)
        self.stays(yard, ["c"], Ring, "tie", "c", "c", 0)
        yard.tie("e", "k", 0)
        self.stays(yard, ["a", "e", "k", "b"], Ring, "tie", "a", "b", 0)
        self.stays(yard, ["b", "k", "e", "a"], Ring, "tie", "b", "a", 0)

    def test_full_of_one_ahead_of_other(self):
        yard = self.full()
        self.stays(yard, "a", Full, "tie", "a", "b", 0)
        self.stays(yard, "b", Full, "tie", "b", "a", 0)
        self.stays(yard, "a", Full, "tie", "a", "c", 0)
        self.stays(yard, "a", Full, "tie", "c", "a", 0)
        self.stays(yard, "b", Full, "tie", "c", "b", 0)
        yard.cut("a", "e")
        self.assertEqual(len(neighbours(yard.hall(), "a")), 5)
        yard.tie("c", "a", 0)
        self.stays(yard, "a", Full, "tie", "d", "a", 0)

    def test_no_tie_has_none(self):
        yard = self.full()
        self.stays(yard, None, NoTie, "cut", "a", "b")
        self.stays(yard, None, NoTie, "cut", "e", "f")
        self.stays(yard, None, NoTie, "cut", "a", "a")
        yard.cut("e", "a")
        self.stays(yard, None, NoTie, "cut", "a", "e")

    def test_may_not(self):
        yard = Yard(5)
        yard.do([("put", "a", 0, 0), ("put", "b", 1, 3), ("put", "c", 1, 0)])
        self.stays(yard, "a", MayNot, "go", "a")
        self.stays(yard, "b", MayNot, "go", "b")
        yard.go("c")
        self.stays(yard, "c", NoName, "go", "c")

    def test_no_deed_has_none(self):
        yard = Yard(5)
        self.refused(None, NoDeed, yard.undo)
        for many in (-1, 1, 2, -10 ** 30, 10 ** 30):
            self.refused(None, NoDeed, yard.as_of, many)
        yard.put("a", 1, 0)
        for many in (-1, -2, 2, 3):
            self.refused(None, NoDeed, yard.as_of, many)
        yard.undo()
        self.refused(None, NoDeed, yard.undo)
        self.assertEqual(yard.log(), [("in", "undo"), ("out", "undo"), ("in", "put"), ("out", "put")]
                         + [("in", "undo"), ("out", "undo")] * 2)

    def test_a_ring_s_list_is_the_asker_s_own(self):
        yard = self.full()
        for turn in range(2):
            with self.assertRaises(Ring) as caught:
                yard.tie("e", "j", 0)
            self.assertEqual(caught.exception.what, ["e", "a", "j"])
            caught.exception.what.append("z")


class DoAndUndo(Yards):
    def test_of_none(self):
        yard = Yard(3)
        for handed in ([], ()):
            self.assertEqual(yard.do(handed), [])
        self.assertEqual((yard.deeds(), yard.hall()), (2, (3, (), ())))
        self.assertEqual(yard.log(), [("in", "do"), ("out", "do")] * 2)
        yard.undo()
        yard.undo()
        self.refused(None, NoDeed, yard.undo)

    def test_of_several_taken_back_as_one(self):
        yard = Yard(0)
        yard.put("a", 1, 0)
        ahead = yard.hall()
        told = yard.do([("put", "b", 0, 4), ("tie", "b", "a", 4), ("go", "a"), ("put", "a", 1, 0)])
        self.assertEqual(told, [([], []), ([], ["b"]), ([], ["b"]), ([], [])])
        self.assertEqual((yard.deeds(), yard.gone_row(), yard.names()), (2, ["a"], ["a", "b"]))
        self.assertIsNone(yard.undo())
        self.assertEqual((yard.deeds(), yard.gone_row(), yard.hall()), (1, [], ahead))
        self.assertEqual(yard.log(), [("in", "put"), ("out", "put"), ("in", "do"), ("in", "put"), ("out", "put"),
                                      ("in", "tie"), ("out", "tie"), ("in", "go"), ("out", "go"), ("in", "put"),
                                      ("out", "put"), ("out", "do"), ("in", "undo"), ("out", "undo")])

    def test_refused_amid(self):
        yard = Yard(0)
        yard.put("a", 1, 0)
        ahead = yard.hall()
        self.refused("z", NoName, yard.do, [("put", "b", 1, 0), ("go", "b"), ("go", "z"), ("put", "c", 1, 0)])
        self.assertEqual((yard.hall(), yard.deeds(), yard.gone_row(), yard.names()), (ahead, 1, [], ["a"]))
        self.assertEqual(yard.log()[2:], [("in", "do"), ("in", "put"), ("out", "put"), ("in", "go"), ("out", "go"),
                                          ("in", "go"), ("out", "go"), ("out", "do")])
        yard.undo()
        self.assertEqual(yard.hall(), (0, (), ()))

    def test_eight_of_a_do_and_eighty_deeds(self):
        yard = Yard(60)
        for turn in range(10):
            yard.do([("put", "abcd"[at], 1, turn + at) for at in range(4)]
                    + [("drop", "abcd"[at]) for at in range(4)])
        for turn in range(70):
            yard.put("a" + LETTERS[turn % 20], 1, turn) if turn < 20 else yard.lay("a" + LETTERS[turn % 20], 0, turn)
        self.assertEqual((yard.deeds(), len(yard)), (80, 20))
        for turn in range(80):
            yard.undo()
        self.assertEqual((yard.deeds(), yard.hall()), (0, (60, (), ())))

    def test_a_list_of_deeds_changed_later_changes_no_yard(self):
        yard = Yard(0)
        deeds = [("put", "a", 1, 0), ("go", "a")]
        yard.do(deeds)
        deeds.append(("put", "b", 1, 0))
        deeds[0] = ("put", "c", 1, 0)
        self.assertEqual((yard.names(), yard.gone_row(), yard.deeds()), ([], ["a"], 1))
        self.assertEqual((yard.twin().gone_row(), len(yard.log())), (["a"], 6))
        yard.undo()
        self.assertEqual(yard.gone_row(), [])


class Asked(Yards):
    def yard(self):
        yard = Yard(7)
        yard.put("b", 1, 0)
        yard.put("a", 1, 3)
        yard.do([("tie", "b", "a", 3), ("lay", "a", 0, 3)])
        yard.go("b")
        yard.put("b", 1, 0)
        yard.go("b")
        return yard

    def test_gone_row(self):
        yard = self.yard()
        self.assertEqual(yard.gone_row(), ["b", "b"])
        yard.undo()
        self.assertEqual(yard.gone_row(), ["b"])
        yard.undo()
        yard.undo()
        self.assertEqual(yard.gone_row(), [])

    def test_as_of_each_number(self):
        yard = self.yard()
        ahead = yard.hall(), yard.log()
        wanted = [(7, (), ()), (7, (("b", 1, 0),), ()), (7, (("a", 1, 3), ("b", 1, 0)), ()),
                  (7, (("a", 0, 3), ("b", 1, 0)), (("a", "b", 3),)), (7, (("a", 1, 0),), ()),
                  (7, (("a", 1, 0), ("b", 1, 0)), ()), (7, (("a", 1, 0),), ())]
        for many in range(7):
            other = yard.as_of(many)
            self.assertIsInstance(other, Yard)
            self.assertEqual((other.hall(), other.deeds(), other.log()), (wanted[many], many, []))
            self.assertEqual(other.gone_row(), [[], [], [], [], ["b"], ["b"], ["b", "b"]][many])
            for turn in range(many):
                other.undo()
                self.assertEqual(other.hall(), wanted[many - turn - 1])
            other.put("z", 1, 1)
            self.assertEqual(other.names(), ["z"])
        self.assertEqual((yard.hall(), yard.log(), yard.deeds()), (*ahead, 6))

    def test_as_of_goes_on_apart(self):
        yard = self.yard()
        other = yard.as_of(2)
        yard.put("c", 1, 0)
        yard.undo()
        yard.undo()
        self.assertEqual((other.names(), other.deeds()), (["a", "b"], 2))
        other.drop("a")
        self.assertEqual((yard.names(), yard.deeds()), (["a", "b"], 5))
        self.assertEqual(yard.as_of(2).names(), ["a", "b"])
        self.assertEqual(other.log(), [("in", "drop"), ("out", "drop")])

    def test_twin(self):
        yard = self.yard()
        twin = yard.twin()
        self.assertEqual((twin.hall(), twin.deeds(), twin.gone_row(), twin.log()), (yard.hall(), 6, ["b", "b"], []))
        self.assertTrue(twin == yard)
        twin.undo()
        self.assertFalse(twin == yard)
        self.assertEqual((twin.deeds(), yard.deeds()), (5, 6))
        self.assertEqual(Yard(3).twin().hall(), (3, (), ()))

    def test_has(self):
        yard = self.yard()
        self.assertIs(yard.has("a"), True)
        for thing in (*ODD_THINGS, "b", "A", "aa", ["a"], ("a",), [["a"]], "a "):
            self.assertIs(yard.has(thing), thing == "a")
        for thing in ODD_THINGS:
            self.assertIs(Yard(0).has(thing), False)

    def test_names_and_len(self):
        yard = Yard(0)
        self.assertEqual((yard.names(), len(yard)), ([], 0))
        for name in ("b", "a", "ab", "zzzzzzzz", "aa"):
            yard.put(name, 1, 0)
        self.assertEqual((yard.names(), len(yard)), (["a", "aa", "ab", "b", "zzzzzzzz"], 5))

    def test_equal(self):
        yard = self.yard()
        other = Yard(7)
        self.assertIs(yard == other, False)
        self.assertIs(yard != other, True)
        other.put("a", 1, 7)
        # unlike deeds, unlike rows gone, the same hall
        self.assertIs(yard == other, True)
        self.assertIs(other == yard, True)
        self.assertIs(yard != other, False)
        self.assertIs(Yard(7) == Yard(7), True)
        self.assertIs(Yard(7) == Yard(6), False)
        other.lay("a", 1, 1)
        self.assertIs(yard == other, False)
        for thing in (yard.hall(), repr(yard), len(yard), yard.names(), *ODD_THINGS):
            self.assertIs(yard == thing, False)
            self.assertIs(thing == yard, False)
            self.assertIs(yard != thing, True)

    def test_repr(self):
        self.assertEqual([repr(Yard(0)), repr(Yard(60)), repr(self.yard())], ["Yard(0, 0)", "Yard(60, 0)", "Yard(7, 1)"])
        yard = Yard(7)
        yard.do([("put", name, 1, 0) for name in "abc"])
        self.assertEqual((repr(yard), str(yard)), ("Yard(7, 3)", "Yard(7, 3)"))

    def test_a_told_list_changed_changes_no_later_answer(self):
        yard = self.yard()
        asks = (yard.gone_row, yard.log, yard.names, yard.hall, yard.deeds)
        for ask in asks:
            wanted = deepcopy(ask())
            spoilt(ask())
            self.assertEqual(ask(), wanted)
            spoilt(yard.twin().gone_row())
            self.assertEqual(ask(), wanted)
        told = yard.do([("put", "y", 1, 0), ("put", "z", 1, 0), ("tie", "y", "z", 0)])
        rows = list(lists_within([told, *[ask() for ask in asks for again in range(2)]]))
        self.assertEqual(len({id(row) for row in rows}), len(rows))
        spoilt(told)
        self.assertEqual(yard.names(), ["a", "y", "z"])
        spoilt(yard.put("x", 1, 0))
        self.assertEqual(yard.names(), ["a", "x", "y", "z"])

    def test_asking_changes_nothing(self):
        yard = self.yard()
        ahead = yard.log()
        for turn in range(2):
            self.assertEqual((yard.hall(), yard.deeds(), yard.as_of(3).deeds(), yard.twin().deeds(), len(yard)),
                             ((7, (("a", 1, 0),), ()), 6, 3, 6, 1))
            self.assertEqual((repr(yard), yard == yard, yard.has("a"), yard.log()), ("Yard(7, 1)", True, True, ahead))


class TheTestsOwn(unittest.TestCase):
    def test_the_way_between(self):
        pairs = [("a", "b"), ("b", "c"), ("b", "d")]
        self.assertEqual(way_between(pairs, "c", "d"), ["c", "b", "d"])
        self.assertIsNone(way_between(pairs, "a", "e"))
        self.assertEqual(joined("abcde", pairs)["a"], set("abcd"))


if __name__ == "__main__":
    unittest.main()
