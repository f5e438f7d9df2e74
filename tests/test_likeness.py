import unittest
from itertools import product
from random import Random

from mirrorwood.arrows import arrows, faced
from mirrorwood.goings import is_way
from mirrorwood.home import bars
from mirrorwood.likeness import parting, same_ways, signs
from mirrorwood.seats import seatings
from things import (FOUR, OwnAnswers, all_halls, earlier_by_sides, halls_by_arrows, on_wheel, seatings_by_trying,
                    small_halls, some_halls, star, ways_by_trying, woods)

BARE = (7, (), ())
# m goes behind a and b, c behind m; z is alone
HALL = (0, (("a", 1, 0), ("b", 1, 0), ("c", 0, 9), ("m", 1, 0), ("z", 1, 0)),
        (("a", "m", 5), ("b", "m", 5), ("c", "m", 9)))
# the same, but a first
FIRST = (7, (("a", 1, 0), ("b", 1, 0), ("c", 0, 1), ("m", 1, 3), ("z", 1, 0)),
         (("a", "m", 5), ("b", "m", 2), ("c", "m", 1)))


def halls_of(pairs, names, wheels):
    """All halls of these ties that have a way home, of few wheels and numbers."""
    told = []
    for wheel, numbers in wheels:
        for mirrors in product(numbers, repeat=len(pairs)):
            ties = tuple((*pair, mirror) for pair, mirror in zip(pairs, mirrors))
            for cards in product(product((0, 1), numbers), repeat=len(names)):
                hall = (wheel, tuple((name, *card) for name, card in zip(names, cards)), ties)
                if not bars(hall):
                    told.append(hall)
    return told


def seated_anew(chance, hall):
    """A hall of the same ties and faces, of another wheel, with other mirrors, and numbers that leave ways home."""
    wheel = chance.choice((0, 2, 3, 60))
    mirrors = {tie[:2]: on_wheel(wheel, chance.choice((0, 1, 1, 2, 4))) for tie in hall[2]}
    places = []
    for name, face, number in hall[1]:
        ahead = earlier_by_sides(hall, name)
        worth = [mirrors[min(name, other), max(name, other)] for other in chance.sample(ahead, len(ahead))]
        odd = (len(worth) + 1) // 2
        places.append((name, face, on_wheel(wheel, sum(worth[:odd]) - sum(worth[odd:]))))
    return (wheel, tuple(places), tuple((*pair, mirrors[pair]) for pair in mirrors))


class Signs(unittest.TestCase):
    def test_its_two_parts(self):
        told = signs(HALL)
        self.assertEqual(told, ([("a", "m"), ("b", "m"), ("m", "c")],
                                [("a", [()]), ("b", [()]), ("c", [("m",)]), ("m", [("a",), ("b",)]), ("z", [()])]))
        self.assertIsInstance(told, tuple)
        self.assertTrue(all(isinstance(pair, tuple) for part in told for pair in part))
        self.assertEqual(signs(FIRST)[1][3], ("m", [("a",)]))

    def test_without_places(self):
        self.assertEqual(signs(BARE), ([], []))

    def test_by_what_is_told_elsewhere(self):
        halls = [hall for hall in small_halls(31) if not bars(hall)] + [hall for hall, row in some_halls(73, 20, (9, 24))]
        for hall in halls:
            names = [place[0] for place in hall[1]]
            self.assertEqual(signs(hall), (arrows(hall), [(name, seatings(hall, name)) for name in names]))
            self.assertEqual(signs(hall)[1], [(name, seatings_by_trying(hall, name)) for name in names])


class Likeness(unittest.TestCase):
    def as_tried(self, hall, other, ways):
        """Compared with all ways home of both, either way about: whether they are alike."""
        same = ways[hall] == ways[other]
        for one, two in ((hall, other), (other, hall)):
            self.assertIs(same_ways(one, two), same, (one, two))
            told = parting(one, two)
            if same:
                self.assertIsNone(told, (one, two))
            else:
                self.parts(one, two, told)
                self.assertIn(told[1], ways[(one, two)[told[0]]])
                self.assertNotIn(told[1], ways[(two, one)[told[0]]])
        return same

    def parts(self, hall, other, told):
        self.assertIsInstance(told, tuple)
        which, row = told
        self.assertIs(type(which), int)
        self.assertIs(is_way((hall, other)[which], row), True)
        self.assertIs(is_way((other, hall)[which], row), False)

    def all_pairs(self, halls, step=1):
        ways = {hall: ways_by_trying(hall) for hall in halls}
        pairs = [(one, two) for at, one in enumerate(halls) for two in halls[at:]]
        return [self.as_tried(one, two, ways) for one, two in pairs[::step]]

    def test_all_pairs_of_small_halls(self):
        wheels = [(0, (0, 1)), (2, (0, 1)), (3, (1,))]
        self.assertEqual(self.all_pairs([(wheel, (), ()) for wheel in (0, 1, 7)]), [True] * 6)
        for names in (FOUR[:1], FOUR[:2], FOUR[:3]):
            for pairs in woods(names):
                self.all_pairs(halls_of(pairs, names, wheels))

    def test_pairs_of_halls_of_four_places(self):
        found = []
        for pairs in woods(FOUR):
            found += self.all_pairs(halls_of(pairs, FOUR, [(0, (0, 1)), (2, (0, 1))])[::4], 3)
        self.assertGreater(found.count(True), 50)
        self.assertGreater(found.count(False), 1000)

    def test_stars_of_the_same_ties(self):
        rows = [(3, 3, 3), (0, 0, 0), (1, 2, 3), (1, 2, 2), (2, 2, 1), (2, 1, 2)]
        halls = [star(wheel, number, mirrors) for mirrors in rows for number in range(5) for wheel in (0, 5)]
        found = self.all_pairs([hall for hall in halls if not bars(hall)])
        self.assertIn(True, found)
        self.assertIn(False, found)

    def test_halls_of_five_to_seven_places(self):
        chance = Random(79)
        found = []
        for hall in halls_by_arrows(83, 150, (5, 6, 7)):
            other = seated_anew(chance, hall)
            found.append(self.as_tried(hall, other, {one: ways_by_trying(one) for one in (hall, other)}))
        self.assertGreater(found.count(True), 20)
        self.assertGreater(found.count(False), 20)

    def test_unlike_wheels_with_the_same_ways(self):
        other = (60, (("a", 1, 0), ("b", 1, 0), ("c", 0, 1), ("m", 1, 30), ("z", 1, 0)),
                 (("a", "m", 45), ("b", "m", 15), ("c", "m", 1)))
        self.assertEqual(signs(HALL), signs(other))
        self.assertIs(same_ways(HALL, other), True)
        self.assertIsNone(parting(HALL, other))

    def test_the_same_arrows_but_not_the_seatings(self):
        self.assertEqual(arrows(HALL), arrows(FIRST))
        self.assertIs(same_ways(HALL, FIRST), False)
        self.assertEqual(parting(HALL, FIRST)[0], 0)
        self.assertEqual(parting(FIRST, HALL)[0], 1)
        self.parts(HALL, FIRST, parting(HALL, FIRST))
        self.parts(FIRST, HALL, parting(FIRST, HALL))

    def test_the_same_seatings_but_not_the_arrows(self):
        # m ahead of b, at an even turn; b ahead of m, at an even turn
        ties = (("a", "m", 1), ("b", "c", 1), ("b", "m", 0))
        one = (0, (("a", 1, 0), ("b", 1, 1), ("c", 1, 0), ("m", 0, 1)), ties)
        two = (0, (("a", 1, 0), ("b", 0, 1), ("c", 1, 0), ("m", 1, 1)), ties)
        self.assertEqual(signs(one)[1], signs(two)[1])
        self.assertNotEqual(signs(one)[0], signs(two)[0])
        self.as_tried(one, two, {hall: ways_by_trying(hall) for hall in (one, two)})
        self.assertIs(same_ways(one, two), False)

    def test_the_other_arrow(self):
        one = (0, (("a", 1, 0), ("b", 0, 4)), (("a", "b", 4),))
        two = (3, (("a", 0, 2), ("b", 1, 0)), (("a", "b", 2),))
        self.assertIs(same_ways(one, two), False)
        self.parts(one, two, parting(one, two))
        self.parts(two, one, parting(two, one))

    def test_a_hall_with_itself(self):
        for hall, row in some_halls(89, 20, (3, 8, 24)):
            self.assertIs(same_ways(hall, hall), True)
            self.assertIsNone(parting(hall, hall))

    def test_halls_of_16_and_24_places(self):
        chance = Random(97)
        found = []
        for hall in [*halls_by_arrows(101, 60, (16, 24)), *[hall for hall, row in some_halls(103, 20, (16, 24))]]:
            other = seated_anew(chance, hall)
            self.assertEqual((bars(other), arrows(other)), ([], arrows(hall)))
            told = parting(hall, other)
            found.append(told is None)
            self.assertIs(same_ways(hall, other), told is None)
            self.assertEqual([seatings_by_trying(hall, place[0]) == seatings_by_trying(other, place[0])
                              for place in hall[1]].count(False) == 0, told is None)
            if told is not None:
                self.parts(hall, other, told)
                self.parts(other, hall, parting(other, hall))
        self.assertGreater(found.count(False), 20)

    def test_one_arrow_turned_in_halls_of_24_places(self):
        chance = Random(107)
        for hall in halls_by_arrows(109, 20, (24,)):
            if hall[2]:
                turned = arrows(hall)
                turned[0] = turned[0][::-1]
                other = seated_anew(chance, faced(hall, turned))
                self.assertEqual(bars(other), [])
                self.assertIs(same_ways(hall, other), False)
                self.parts(hall, other, parting(hall, other))
                self.parts(other, hall, parting(other, hall))

    def test_every_hall_of_three_places_with_the_bare_one_s_ways(self):
        halls = [hall for hall in all_halls(FOUR[:3], 2, (0, 1)) if not hall[2] and not bars(hall)]
        for one in halls:
            self.assertIsNone(parting(one, (0, tuple((name, 1, 0) for name in "abc"), ())))


class Told(OwnAnswers, unittest.TestCase):
    ASKS = [(signs, (HALL,)), (signs, (FIRST,)), (signs, (BARE,)), (same_ways, (HALL, FIRST)), (same_ways, (HALL, HALL)),
            (parting, (HALL, FIRST)), (parting, (FIRST, HALL)), (parting, (HALL, HALL))]
    NAMES = {"signs": "hall", "same_ways": "hall other", "parting": "hall other"}


if __name__ == "__main__":
    unittest.main()
