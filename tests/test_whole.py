"""What is promised over the whole: point [1], (a) to (g)."""

import unittest
from itertools import permutations

from mirrorwood.arrows import arrows, earlier, faced, is_odd
from mirrorwood.counts import number_of, way_at, ways
from mirrorwood.desk import run
from mirrorwood.errors import MayNot, NoWay
from mirrorwood.goings import behind, gone, is_way, may_go
from mirrorwood.halls import made, pieces
from mirrorwood.home import bars, good, shows_bar, way_home, why_not
from mirrorwood.likeness import parting, same_ways, signs
from mirrorwood.mending import least_laid, shows_laid
from mirrorwood.seats import is_order, seatings
from mirrorwood.texts import hall_in, hall_text
from mirrorwood.turns import latest, soonest
from mirrorwood.wedging import least_wedged, shows_wedged, without
from mirrorwood.yard import Yard
from things import all_halls, halls_by_arrows, small_halls, some_halls, subsets, ways_by_trying


def keeps_to_it(hall, row):
    """Whether a row of all names goes by the arrows, each place's earlier ones in a good order."""
    at = {name: turn for turn, name in enumerate(row)}
    if any(at[first] > at[second] for first, second in arrows(hall)):
        return False
    return all(is_order(hall, name, [other for other in row if other in earlier(hall, name)]) for name in row)


class Whole(unittest.TestCase):
    def halls(self):
        yield from small_halls(13)
        yield from (hall for hall, row in some_halls(19, 40, (4, 5)))

    def test_a_way_home_just_where_pieces_are_odd_and_seatings_good(self):
        for hall in self.halls():
            names = [place[0] for place in hall[1]]
            wanted = all(is_odd(hall, piece) for piece in pieces(hall)) and all(seatings(hall, name) for name in names)
            self.assertEqual(bool(ways_by_trying(hall)), wanted)
            self.assertEqual(way_home(hall) is not None, wanted)
            self.assertEqual(bars(hall) == [], wanted)
            self.assertTrue(all(shows_bar(hall, bar) for bar in bars(hall)))

    def test_b_the_arrows_tell_the_faces(self):
        for hall in self.halls():
            if way_home(hall) is not None:
                self.assertEqual(len(arrows(hall)), len(hall[2]))
                self.assertEqual(faced(hall, arrows(hall)), hall)

    def test_b_faces_alone_tell_who_goes_first(self):
        told = {}
        for hall in all_halls(["a", "b", "c"], 3, (0, 1, 2)):
            faces = tuple(place[:2] for place in hall[1])
            told.setdefault((faces, tuple(tie[:2] for tie in hall[2])), []).append(hall)
        for halls in told.values():
            self.assertEqual(len({str(arrows(hall)) for hall in halls}), 1)

    def test_c_the_ways_home_are_just_the_rows_that_keep_to_it(self):
        for hall in self.halls():
            if not all(is_odd(hall, piece) for piece in pieces(hall)):
                continue
            ways = ways_by_trying(hall)
            for row in permutations([place[0] for place in hall[1]]):
                self.assertEqual(keeps_to_it(hall, row), list(row) in ways, (hall, row))

    def test_c_whoever_keeps_to_good_goings_is_never_stuck(self):
        for hall, row in some_halls(23, 25, (5, 6)):
            self.never_stuck(hall)

    def never_stuck(self, hall):
        for name in may_go(hall):
            left = gone(hall, name)
            self.assertEqual(why_not(hall, name) is None, name in good(hall))
            if name in good(hall):
                self.assertTrue(good(left) or not left[1])
                self.never_stuck(left)
            else:
                self.assertEqual(ways_by_trying(left), [])
                self.assertRaises(NoWay, why_not, left, left[1][0][0])

    def test_c_whoever_does_not_once_never_comes_home(self):
        for hall, row in some_halls(29, 20, (24,)):
            for at, name in enumerate(row):
                self.assertIsNone(why_not(hall, name))
                for other in may_go(hall):
                    if other not in good(hall):
                        self.assertIs(is_way(hall, [other, *[left for left in row[at:] if left != other]]), False)
                        self.assertIsNone(way_home(gone(hall, other)))
                hall = gone(hall, name)

    def test_d_each_turn_that_is_told_is_gone_at_and_none_beyond(self):
        for hall in [*self.halls(), *halls_by_arrows(191, 40, (4, 5, 6))]:
            rows = ways_by_trying(hall)
            self.assertEqual(ways(hall), len(rows))
            for name, face, number in hall[1]:
                if not rows:
                    self.assertRaises(NoWay, soonest, hall, name)
                    self.assertRaises(NoWay, latest, hall, name)
                    continue
                turns = {row.index(name) + 1 for row in rows}
                self.assertEqual((soonest(hall, name)[0], latest(hall, name)[0]), (min(turns), max(turns)))
                self.assertEqual(soonest(hall, name)[0] == 1, name in good(hall))
                for turn, row in (soonest(hall, name), latest(hall, name)):
                    self.assertEqual(row[turn - 1], name)
                    self.assertEqual(way_at(hall, number_of(hall, row)), row)

    def test_e_the_same_ways_just_where_arrows_and_seatings_are_the_same(self):
        told = {}
        for hall in all_halls(["a", "b", "c"], 2, (0, 1)):
            if way_home(hall) is not None:
                told.setdefault(tuple(tie[:2] for tie in hall[2]), []).append(hall)
        for halls in told.values():
            for one in halls[::3]:
                for two in halls[::5]:
                    same = ways_by_trying(one) == ways_by_trying(two)
                    self.assertEqual((signs(one) == signs(two), same_ways(one, two)), (same, same))
                    self.assertEqual(parting(one, two) is None, same)

    def test_f_no_less_than_the_least_price_of_cards_laid_anew(self):
        for hall in self.halls():
            prices = [(name, at + 1) for at, (name, face, number) in enumerate(hall[1])]
            price, other, table = least_laid(hall, prices)
            self.assertIsNotNone(way_home(other))
            self.assertEqual(price == 0, way_home(hall) is not None)
            self.assertIs(shows_laid(hall, prices, price, table), True)
            self.assertIs(shows_laid(hall, prices, price + 1, table), False)

    def test_f_no_less_than_the_least_price_of_places_wedged(self):
        for hall in self.halls():
            prices = [(name, at + 1) for at, (name, face, number) in enumerate(hall[1])]
            price, names, table = least_wedged(hall, prices)
            self.assertIsNotNone(way_home(without(hall, names)))
            self.assertEqual(price == 0, way_home(hall) is not None)
            self.assertIs(shows_wedged(hall, prices, price, table), True)
            self.assertIs(shows_wedged(hall, prices, price + 1, table), False)

    def test_g_a_yard_tells_what_a_hall_made_anew_tells(self):
        for hall in [*list(self.halls())[::37], *[hall for hall, row in some_halls(331, 10, (5, 24))]]:
            yard = self.yard_of(hall)
            self.assertEqual(yard.hall(), hall)
            for name, face, number in hall[1][:3]:
                ahead = self.signs_of_each(yard.hall())
                ties, names = yard.lay(name, 1 - face, number)
                anew = self.signs_of_each(made(hall[0], yard.hall()[1][::-1], yard.hall()[2][::-1]))
                self.assertEqual(ties, [tie[:2] for tie in hall[2] if ahead.get(tie[:2]) != anew.get(tie[:2])])
                self.assertEqual(names, [place[0] for place in hall[1] if ahead[place[0]] != anew[place[0]]])
            for name in hall[1][:3]:
                yard.undo()
            self.assertEqual(yard.hall(), hall)

    def yard_of(self, hall):
        yard = Yard(hall[0])
        yard.do([("put", *place) for place in hall[1][::-1]])
        yard.do([("tie", other, one, mirror) for one, other, mirror in hall[2][::-1]])
        return yard

    def signs_of_each(self, hall):
        """Of each name its seatings, of each tie's two names its arrow, if any."""
        found, seats = signs(hall)
        return {**dict(seats), **{tuple(sorted(arrow)): arrow for arrow in found}}

    def test_all_agree_with_all_rows_of_goings_gone_through(self):
        homes = {}
        for hall in all_halls(["a", "b", "c"], 2, (0, 1)):
            homes.setdefault(hall[2], []).append((hall[1], ways_by_trying(hall)))
        for ties, rows in homes.items():
            for places, found in rows[::7]:
                hall = (2, places, ties)
                self.agree(hall, found, [other for other, others in rows if others])

    def agree(self, hall, rows, homes):
        names = [place[0] for place in hall[1]]
        self.assertEqual((bars(hall) == [], ways(hall)), (rows != [], len(rows)))
        self.assertEqual((way_home(hall), good(hall)), (min(rows, default=None), sorted({row[0] for row in rows})))
        for name in names if rows else ():
            turns = [row.index(name) + 1 for row in rows]
            self.assertEqual((soonest(hall, name)[0], latest(hall, name)[0]), (min(turns), max(turns)))
        for costs in ({"a": 1, "b": 1, "c": 1}, {"a": 3, "b": 0, "c": 2}):
            prices = list(costs.items())
            laid = [sum(costs[one[0]] for one, two in zip(hall[1], other) if one != two) for other in homes]
            self.assertEqual(least_laid(hall, prices)[0], min(laid))
            wedged = [sum(costs[name] for name in some) for some in subsets(names) if ways_by_trying(without(hall, some))]
            self.assertEqual(least_wedged(hall, prices)[0], min(wedged))

    def test_the_desk_tells_what_the_others_tell_of_the_hall_of_a_text(self):
        for hall in [*list(self.halls())[::53], *[hall for hall, row in some_halls(337, 6, (9, 24))]]:
            text = hall_text(hall)
            sheet = text.replace("place ", "put ") + "\nhome\ngood\nmend\nwedge"
            prices = [(place[0], 1) for place in hall[1]]
            self.assertEqual(hall_in(text), hall)
            self.assertEqual(run(sheet)[-4:], [
                " ".join(way_home(hall) or []) or "-", " ".join(good(hall)) or "-",
                str(least_laid(hall, prices)[0]), str(least_wedged(hall, prices)[0])])

    def test_what_is_refused_is_refused_by_its_own_class(self):
        for hall in self.halls():
            for name, face, number in hall[1]:
                if (face, number) != (1, 0):
                    self.assertRaises(MayNot, gone, hall, name)
                    self.assertRaises(MayNot, behind, hall, [name])


if __name__ == "__main__":
    unittest.main()
