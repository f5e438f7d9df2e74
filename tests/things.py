"""Things of every kind, and small woods, that several tests ask about."""

from itertools import combinations

ODD_THINGS = [
    None, True, False, 0, 1, -1, 7, 61, "", "a", "abc", "light",
    [], (), [0], (0,), [1, 0], (None, None), (None, None, None), ("a", "b"),
    ((), ()), ((), (), ()), [[], [], []], (0, 0, 0), (0, (), (), ()), (0, ()),
    ((((((((((0,),),),),),),),),),), [[[[[[[[[[1]]]]]]]]]],
    ("a", 1, 0), (("a", 1, 0),), ((0, (), ()),),
]

FOUR = ["a", "b", "c", "d"]


def with_lists_for_tuples(thing):
    """All copies of it in which just one tuple, at any depth, is a list."""
    if not isinstance(thing, tuple):
        return
    yield list(thing)
    for at, part in enumerate(thing):
        for other in with_lists_for_tuples(part):
            yield thing[:at] + (other,) + thing[at + 1:]


def with_truths_for_numbers(thing):
    """All copies of it in which just one 0 or 1, at any depth, is False or True."""
    if isinstance(thing, tuple):
        for at, part in enumerate(thing):
            for other in with_truths_for_numbers(part):
                yield thing[:at] + (other,) + thing[at + 1:]
    elif thing in (0, 1) and not isinstance(thing, bool):
        yield bool(thing)


def joined(names, pairs):
    """Name by name the set of all that hang together with it: a check by plain closing."""
    sets = {name: {name} for name in names}
    for one, other in pairs:
        both = sets[one] | sets[other]
        for name in both:
            sets[name] = both
    return sets


def is_wood(names, pairs):
    """Whether there is no ring: each tie makes the pieces one fewer."""
    sets = joined(names, pairs)
    return len({tuple(sorted(sets[name])) for name in names}) == len(names) - len(pairs)


def sets_of_pairs():
    """All sets of ties of the four names, as rising lists of rising pairs."""
    every = list(combinations(FOUR, 2))
    for many in range(len(every) + 1):
        for pairs in combinations(every, many):
            yield list(pairs)


def woods():
    """All sets of ties of the four names that close no ring."""
    return [pairs for pairs in sets_of_pairs() if is_wood(FOUR, pairs)]
