"""Halls: tuples (wheel, places, ties), the places tied to a wood."""

from mirrorwood.cards import counted, is_card, is_counted, is_wheel
from mirrorwood.errors import BadPlace, BadTie
from mirrorwood.plain import is_name, rises


def is_hall(thing):
    if not isinstance(thing, tuple) or len(thing) != 3:
        return False
    wheel, places, ties = thing
    return is_wheel(wheel) and are_places(wheel, places) and are_ties(wheel, places, ties)


def are_places(wheel, thing):
    if not isinstance(thing, tuple) or not all([is_place(wheel, place) for place in thing]):
        return False
    return rises([place[0] for place in thing])


def is_place(wheel, thing):
    if not isinstance(thing, tuple) or len(thing) != 3:
        return False
    return is_name(thing[0]) and is_card(wheel, thing[1:])


def are_ties(wheel, places, thing):
    if not isinstance(thing, tuple) or not all([is_tie(wheel, tie) for tie in thing]):
        return False
    return rises([tie[:2] for tie in thing]) and first_bad_tie(places, thing) is None


def is_tie(wheel, thing):
    """Whether it is written as a tie is; which places there are is not asked."""
    if not isinstance(thing, tuple) or len(thing) != 3:
        return False
    one, other, mirror = thing
    return is_name(one) and is_name(other) and one < other and is_counted(wheel, mirror)


def made(wheel, places, ties):
    """The hall of these places and ties, handed in in any order."""
    again = first_again(places)
    if again is not None:
        raise BadPlace(again)
    wrong = first_bad_tie(places, ties)
    if wrong is not None:
        raise BadTie(wrong)
    cards = [(name, face, counted(wheel, number)) for name, face, number in places]
    mirrors = [(min(one, other), max(one, other), counted(wheel, mirror)) for one, other, mirror in ties]
    return (wheel, tuple(sorted(cards)), tuple(sorted(mirrors)))


def first_again(places):
    """The number of the first place whose name was there ahead; None without one."""
    seen = set()
    for at, place in enumerate(places):
        if place[0] in seen:
            return at
        seen.add(place[0])
    return None


def first_bad_tie(places, ties):
    """The number of the first tie that can't stand behind those ahead of it; None without one."""
    heads = {place[0]: place[0] for place in places}
    for at, (one, other, mirror) in enumerate(ties):
        if one not in heads or other not in heads:
            return at
        head = head_of(heads, one)
        second = head_of(heads, other)
        # One place tied to itself has one head as well.
        if head == second:
            return at
        heads[head] = second
    return None


def head_of(heads, name):
    """The name that stands for all that hang together with this one."""
    while heads[name] != name:
        # Halved on the way, so that long chains stay quick to walk.
        heads[name] = heads[heads[name]]
        name = heads[name]
    return name


def names_of(hall):
    return [place[0] for place in hall[1]]


def near(hall, name):
    """The names of its neighbours, rising."""
    ahead = [one for one, other, mirror in hall[2] if other == name]
    behind = [other for one, other, mirror in hall[2] if one == name]
    return sorted(ahead + behind)


def mirror_of(hall, one, other):
    """The mirror of their tie, in either order; None where they aren't tied."""
    for first, second, mirror in hall[2]:
        if (first, second) in ((one, other), (other, one)):
            return mirror
    return None


def card_of(hall, name):
    for place, face, number in hall[1]:
        if place == name:
            return (face, number)
    return None


def reached(hall, start):
    """All that hang together with start: of each the neighbour towards start, None of start."""
    towards = {start: None}
    waiting = [start]
    while waiting:
        name = waiting.pop()
        for other in near(hall, name):
            if other not in towards:
                towards[other] = name
                waiting.append(other)
    return towards


def pieces(hall):
    """The lists of all that hang together, each rising, and they too."""
    told = []
    seen = set()
    for name in names_of(hall):
        if name not in seen:
            piece = sorted(reached(hall, name))
            told.append(piece)
            for other in piece:
                seen.add(other)
    return told


def road(hall, one, other):
    """The names from one to other, tie by tie; None where they don't hang together."""
    towards = reached(hall, other)
    if one not in towards:
        return None
    row = [one]
    while row[-1] != other:
        row.append(towards[row[-1]])
    return row


def laid(hall, name, card):
    """The hall with that card at that place."""
    wheel, places, ties = hall
    face, number = card
    anew = [(name, face, number) if place[0] == name else place for place in places]
    return (wheel, tuple(anew), ties)
