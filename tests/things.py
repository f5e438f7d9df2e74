"""Things of every kind, and small woods, that several tests ask about."""

from copy import deepcopy
from itertools import combinations, islice, permutations, product
from random import Random

ODD_THINGS = [
    None, True, False, 0, 1, -1, 7, 61, "", "a", "abc", "light",
    [], (), [0], (0,), [1, 0], (None, None), (None, None, None), ("a", "b"),
    ((), ()), ((), (), ()), [[], [], []], (0, 0, 0), (0, (), (), ()), (0, ()),
    ((((((((((0,),),),),),),),),),), [[[[[[[[[[1]]]]]]]]]],
    ("a", 1, 0), (("a", 1, 0),), ((0, (), ()),),
]

FOUR = ["a", "b", "c", "d"]
LETTERS = "abcdefghijklmnopqrstuvwx"


def with_lists_for_tuples(thing):
    """All copies of it in which just one tuple, at any depth, is a list."""
    if not isinstance(thing, tuple):
        return
    yield list(thing)
    for at, part in enumerate(thing):
        for other in with_lists_for_tuples(part):
            yield thing[:at] + (other,) + thing[at + 1:]


def with_truths_for_numbers(thing):
    """All copies of it in which just one 0 or 1, at any depth, is False or True."""
    if isinstance(thing, tuple):
        for at, part in enumerate(thing):
            for other in with_truths_for_numbers(part):
                yield thing[:at] + (other,) + thing[at + 1:]
    elif thing in (0, 1) and not isinstance(thing, bool):
        yield bool(thing)


def joined(names, pairs):
    """Name by name the set of all that hang together with it: a check by plain closing."""
    sets = {name: {name} for name in names}
    for one, other in pairs:
        both = sets[one] | sets[other]
        for name in both:
            sets[name] = both
    return sets


def is_wood(names, pairs):
    """Whether there is no ring: each tie makes the pieces one fewer."""
    sets = joined(names, pairs)
    return len({tuple(sorted(sets[name])) for name in names}) == len(names) - len(pairs)


def sets_of_pairs(names=FOUR):
    """All sets of ties of these names, as rising lists of rising pairs."""
    every = list(combinations(names, 2))
    for many in range(len(every) + 1):
        for pairs in combinations(every, many):
            yield list(pairs)


def woods(names=FOUR):
    """All sets of ties of these names that close no ring."""
    return [pairs for pairs in sets_of_pairs(names) if is_wood(names, pairs)]


def all_halls(names, wheel, numbers):
    """All halls of these names with these numbers and mirrors."""
    cards = list(product((0, 1), numbers))
    for pairs in woods(names):
        for mirrors in product(numbers, repeat=len(pairs)):
            ties = tuple((one, other, mirror) for (one, other), mirror in zip(pairs, mirrors))
            for row in product(cards, repeat=len(names)):
                yield (wheel, tuple((name, *card) for name, card in zip(names, row)), ties)


def small_halls(step=7):
    """All halls of few places and numbers, without a wheel and with some; of the two longest rows each step-th."""
    for many in range(3):
        yield from all_halls(FOUR[:many], 0, (-1, 0, 2))
    yield from all_halls(FOUR[:3], 0, (0, 1))
    yield from all_halls(FOUR[:3], 2, (0, 1))
    yield from islice(all_halls(FOUR[:3], 3, (0, 1, 2)), 0, None, step)
    yield from all_halls(FOUR, 1, (0,))
    yield from islice(all_halls(FOUR, 2, (0, 1)), 0, None, step)


def neighbours(hall, name):
    """Of each neighbour the mirror."""
    found = {}
    for one, other, mirror in hall[2]:
        if name in (one, other):
            found[other if one == name else one] = mirror
    return found


def on_wheel(wheel, number):
    return number % wheel if wheel else number


def ways_by_trying(hall):
    """All ways home, rising, by trying all rows of goings on a plain dict of cards."""
    def tries(cards, row):
        if not cards:
            found.append(row)
        for name in sorted(cards):
            if cards[name] == (1, 0):
                left = {other: card for other, card in cards.items() if other != name}
                for other, mirror in tied[name].items():
                    if other in left:
                        face, number = left[other]
                        left[other] = (1 - face, on_wheel(hall[0], mirror - number))
                tries(left, row + [name])

    found = []
    tied = {name: neighbours(hall, name) for name, face, number in hall[1]}
    tries({name: (face, number) for name, face, number in hall[1]}, [])
    return found


def piece_by_joining(hall, name, cut=()):
    """The names of all that hang together with this one, the tie of the two that are cut left out."""
    names = [place[0] for place in hall[1]]
    return sorted(joined(names, [tie[:2] for tie in hall[2] if set(tie[:2]) != set(cut)])[name])


def is_odd_by_counting(hall, names):
    return len([place for place in hall[1] if place[0] in names and place[1] == 1]) % 2 == 1


def earlier_by_sides(hall, name):
    """Its earlier ones by the words of the document: those whose side is odd."""
    if not is_odd_by_counting(hall, piece_by_joining(hall, name)):
        return []
    sides = {other: piece_by_joining(hall, other, (other, name)) for other in sorted(neighbours(hall, name))}
    return [other for other in sides if is_odd_by_counting(hall, sides[other])]


def orders_by_trying(hall, name):
    """All orders of its earlier ones behind which its card is free, rising."""
    if not is_odd_by_counting(hall, piece_by_joining(hall, name)):
        return []
    mirrors = neighbours(hall, name)
    start = {place[0]: place[1:] for place in hall[1]}[name]
    found = []
    for row in permutations(earlier_by_sides(hall, name)):
        face, number = start
        for other in row:
            face, number = 1 - face, on_wheel(hall[0], mirrors[other] - number)
        if (face, number) == (1, 0):
            found.append(list(row))
    return found


def seatings_by_trying(hall, name):
    return sorted({tuple(sorted(row[::2])) for row in orders_by_trying(hall, name)})


def bars_by_trying(hall):
    names = [place[0] for place in hall[1]]
    found = {name: piece_by_joining(hall, name) for name in names}
    odd = {name: is_odd_by_counting(hall, found[name]) for name in names}
    even = [("even", found[name]) for name in names if not odd[name] and found[name][0] == name]
    return even + [("seats", name) for name in names if odd[name] and not orders_by_trying(hall, name)]


def hall_with_way(chance, many, wheel, most=6, shares=(0, 1, 1, 2, 3, 6)):
    """A hall, and a way home of it: built from the last going to the first, each undone in turn."""
    names = sorted(chance.sample(["x" + one + two for one in "abcdef" for two in "abcdef"], many))
    chance.shuffle(names)
    cards, ties, heads = {}, [], {}
    ends = dict.fromkeys(names, 0)
    for name in names:
        others = {}
        for other in sorted(cards, key=lambda other: chance.random()):
            if ends[other] < most:
                others.setdefault(heads[other], other)
        cards[name], heads[name] = (1, 0), name
        for head, other in list(others.items())[:min(most, chance.choice(shares))]:
            mirror = chance.randrange(-3, 4)
            ties.append((*sorted([name, other]), on_wheel(wheel, mirror)))
            face, number = cards[other]
            cards[other] = (1 - face, on_wheel(wheel, mirror - number))
            ends[name], ends[other] = ends[name] + 1, ends[other] + 1
            heads = {place: name if heads[place] == head else heads[place] for place in heads}
    hall = (wheel, tuple(sorted((name, *cards[name]) for name in names)), tuple(sorted(ties)))
    return hall, names[::-1]


def some_halls(seed, rounds, sizes):
    """Pairs of halls and ways home of them, the same ones each time."""
    chance = Random(seed)
    for turn in range(rounds):
        yield hall_with_way(chance, chance.choice(sizes), chance.choice((0, 1, 2, 3, 7, 60)))


def hall_by_arrows(chance, many, wheel, mirrors, most=6, pieces=0.1):
    """A hall with a way home: each tie an arrow either way about, each number by one seating of those ahead."""
    names = chance.sample(LETTERS, many)
    ties, ahead = {}, {name: [] for name in names}
    for at, name in enumerate(names):
        free = [other for other in names[:at] if len([pair for pair in ties if other in pair]) < most]
        if free and chance.random() >= pieces:
            first, second = chance.sample([name, chance.choice(free)], 2)
            ties[first, second] = on_wheel(wheel, chance.choice(mirrors))
            ahead[second].append(first)
    places = []
    for name in names:
        worth = [ties[other, name] for other in chance.sample(ahead[name], len(ahead[name]))]
        odd = (len(worth) + 1) // 2
        places.append((name, 1 - len(worth) % 2, on_wheel(wheel, sum(worth[:odd]) - sum(worth[odd:]))))
    return (wheel, tuple(sorted(places)), tuple(sorted((*sorted(pair), ties[pair]) for pair in ties)))


def halls_by_arrows(seed, rounds, sizes):
    """Such halls, the same ones each time: with mirrors that leave one seating, few, or all of them good."""
    chance = Random(seed)
    for turn in range(rounds):
        mirrors = chance.choice([(1, 2, 4, 8, 16, 32, 64, 128), (0, 1, 3), (-2, 2, 5), (0,)])
        yield hall_by_arrows(chance, chance.choice(sizes), chance.choice((0, 0, 2, 5, 60)), mirrors,
                             chance.choice((2, 3, 6)), chance.choice((0, 0, 0.2)))


def zigzag(many):
    """A road x0 - l1 - x1 - l2 - ..: at each l the x behind it on the road must go ahead of the x ahead of it."""
    xs = ["x" + LETTERS[at] for at in range(many + 1)]
    ls = ["l" + LETTERS[at] for at in range(many)]
    places = [(name, 1, 0) for name in xs] + [(name, 1, 2) for name in ls]
    ties = [(ls[at], xs[at], 1) for at in range(many)] + [(ls[at], xs[at + 1], 3) for at in range(many)]
    return (0, tuple(sorted(places)), tuple(sorted(ties))), xs, ls


def hangs_by_words(hall):
    """Of each name the one that it hangs by, None of the least one of its piece."""
    told = {}
    for name, face, number in hall[1]:
        root = piece_by_joining(hall, name)[0]
        told[name] = None
        for other in neighbours(hall, name):
            if name != root and root in piece_by_joining(hall, other, (name, other)):
                told[name] = other
    return told


def fits_by_words(hall, name, others):
    """Whether its card fits this set of its neighbours."""
    face, number = {place[0]: place[1:] for place in hall[1]}[name]
    mirrors = neighbours(hall, name)
    many = len(others) // 2 if len(others) % 2 == 0 else len(others) // 2 + 1
    sums = [sum(mirrors[other] if other in some else -mirrors[other] for other in others)
            for some in combinations(others, many)]
    return (face == 1) == (len(others) % 2 == 0) and number in [on_wheel(hall[0], found) for found in sums]


def subsets(names):
    return [some for many in range(len(names) + 1) for some in combinations(names, many)]


def some_prices(chance, hall):
    """Pairs (name, price) in any order: all alike, great ones, many noughts."""
    names = [place[0] for place in hall[1]]
    kind = chance.choice([(1,), (0,), (0, 1), (1, 2, 3, 5), (0, 0, 7), (999999, 1000000), (0, 1, 1000000)])
    return [(name, chance.choice(kind)) for name in chance.sample(names, len(names))]


def tables_like(table, numbers):
    """Copies of a told table with one thing of it made another: (the copy, whether it's still written as one)."""
    for at, row in enumerate(table):
        ahead, behind = table[:at], table[at + 1:]
        for part in range(1, len(row)):
            for other in numbers(row[part]):
                yield ahead + [row[:part] + (other,) + row[part + 1:]] + behind, True
            for other in (True, False, "", "1", [], (), (1,), [1], "None"):
                yield ahead + [row[:part] + (other,) + row[part + 1:]] + behind, False
        yield ahead + behind, False
        yield ahead + [row, row] + behind, False
        yield ahead + behind + [row], not behind
        yield ahead + [list(row)] + behind, False
        yield ahead + [row + (0,)] + behind, False
        yield ahead + [row[:-1]] + behind, False
        for other in ("zzzzzzzz", "", "A", None, 0, True, [row[0]], (row[0],), row[0] + "a"):
            yield ahead + [(other,) + row[1:]] + behind, False
        for other in ODD_THINGS:
            yield ahead + [other] + behind, other == ("a", 1, 0) and row[0] == "a" and len(row) == 3
    yield tuple(table), False
    yield [table], False
    yield table + [("zzzzzzzz",) + (0,) * (len(table[0]) - 1 if table else 2)], False
    yield [[]] + table, False


def star(wheel, number, mirrors):
    """An odd piece: the place m that shows this number, tied by these mirrors to a, b, c, x, y, z, all earlier ones."""
    around = "abcxyz"[:len(mirrors)]
    places = [("m", 1 - len(mirrors) % 2, number)] + [(name, 1, 0) for name in around]
    ties = [(*sorted(["m", name]), mirror) for name, mirror in zip(around, mirrors)]
    return (wheel, tuple(sorted(places)), tuple(sorted(ties)))


def big_halls():
    """Halls of 24 places: all goings free; none free; woods with places of 6 ties, with a way home and without."""
    # A row of five places, four of them of six ties each, with all others around them.
    spine = [("a", "b"), ("b", "c"), ("c", "d"), ("d", "e")]
    pairs = sorted(spine + list(zip("aaaaabbbbccccddddee", LETTERS[5:])))
    for wheel in (0, 1, 7, 60):
        for face in (0, 1):
            for number in sorted({0, on_wheel(wheel, -1)}):
                places = tuple((name, face, number) for name in LETTERS)
                yield (wheel, places, ())
                yield (wheel, places, tuple((*pair, on_wheel(wheel, at)) for at, pair in enumerate(pairs)))
                yield (wheel, places, tuple((low, high, 0) for low, high in zip(LETTERS, LETTERS[1:])))
    for hall, row in some_halls(24, 30, (24,)):
        yield hall
        yield (hall[0], ((hall[1][0][0], 1 - hall[1][0][1], hall[1][0][2]),) + hall[1][1:], hall[2])


def spoilt(told):
    """Changes all lists of what was told, at any depth."""
    if isinstance(told, (list, tuple)):
        for part in told:
            spoilt(part)
    if isinstance(told, list):
        told.append("spoilt")


def lists_within(told):
    """All lists of what was told, at any depth, itself among them."""
    if isinstance(told, list):
        yield told
    if isinstance(told, (list, tuple)):
        for part in told:
            yield from lists_within(part)


class OwnAnswers:
    """For a TestCase with ASKS, pairs of functions and what they are handed: whose are the lists that they tell."""

    def test_a_told_list_changed_changes_no_later_answer(self):
        for ask, handed in self.ASKS:
            first = ask(*handed)
            wanted = deepcopy(first)
            spoilt(first)
            self.assertEqual(ask(*handed), wanted, ask)

    def test_no_two_told_lists_are_one(self):
        told = [ask(*handed) for ask, handed in self.ASKS for again in range(2)]
        lists = list(lists_within(told))
        self.assertEqual(len({id(row) for row in lists}), len(lists))
        handed = [id(row) for ask, handed in self.ASKS for row in lists_within(handed)]
        self.assertEqual([row for row in lists if id(row) in handed], [])

    def test_what_is_handed_in_stays(self):
        for ask, handed in self.ASKS:
            wanted = deepcopy(handed)
            ask(*handed)
            self.assertEqual(handed, wanted, ask)

    def test_arguments_by_their_names(self):
        for ask, handed in self.ASKS:
            names = self.NAMES[ask.__name__].split()
            self.assertEqual(ask(**dict(reversed(list(zip(names, handed, strict=True))))), ask(*handed), ask)

    def test_each_name_is_asked_for(self):
        self.assertEqual({ask.__name__ for ask, handed in self.ASKS}, set(self.NAMES))
