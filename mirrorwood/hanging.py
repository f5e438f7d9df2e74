"""What hangs by what, which sets of neighbours a card fits, and tables of numbers for each place."""

from mirrorwood.halls import card_of, names_of, pieces, reached
from mirrorwood.seats import good_seatings


def hanging(hall):
    """Of each name the one that it hangs by, None of a root; each name stands behind the one that it hangs by."""
    told = {}
    for piece in pieces(hall):
        told.update(reached(hall, piece[0]))
    return told


def below(hangs):
    """Of each name all that hang by it."""
    told = {name: [] for name in hangs}
    for name in hangs:
        if hangs[name] is not None:
            told[hangs[name]].append(name)
    return told


def above(hangs, name):
    """The list of the one that it hangs by; without any of a root."""
    return [] if hangs[name] is None else [hangs[name]]


def sets_of(names):
    """All sets of these names, as lists."""
    told = [[]]
    for name in names:
        told = told + [[*some, name] for some in told]
    return told


def fits(hall, name, others):
    """Whether its card fits this set of its neighbours."""
    face = card_of(hall, name)[0]
    return face == 1 - len(others) % 2 and len(good_seatings(hall, name, others)) > 0


def is_table(hall, thing, width):
    """Whether it is a list of tuples of that width, one for each name, names rising, whatever else is in them."""
    names = names_of(hall)
    if not isinstance(thing, list) or len(thing) != len(names):
        return False
    return all([isinstance(row, tuple) and len(row) == width and row[0] == name for row, name in zip(thing, names)])
