"""Goings: a place whose card is free goes, and turns its neighbours' cards."""

from mirrorwood.cards import is_free, mirrored
from mirrorwood.errors import MayNot
from mirrorwood.halls import card_of


def may_go(hall):
    """The names whose cards are free, rising."""
    return [name for name, face, number in hall[1] if is_free((face, number))]


def gone(hall, name):
    """The hall behind the going of this place."""
    # A name that isn't there has no card, so it isn't free either.
    if not is_free(card_of(hall, name)):
        raise MayNot(name)
    wheel, places, ties = hall
    mirrors = mirrors_at(ties, name)
    left = [turned_by(wheel, place, mirrors) for place in places if place[0] != name]
    return (wheel, tuple(left), tuple([tie for tie in ties if name not in tie[:2]]))


def mirrors_at(ties, name):
    """Of each neighbour of this place the mirror of their tie."""
    mirrors = {}
    for one, other, mirror in ties:
        if one == name:
            mirrors[other] = mirror
        elif other == name:
            mirrors[one] = mirror
    return mirrors


def turned_by(wheel, place, mirrors):
    """The place with its card mirrored where there is a mirror for it, else as it is."""
    name, face, number = place
    if name not in mirrors:
        return place
    face, number = mirrored(wheel, (face, number), mirrors[name])
    return (name, face, number)


def behind(hall, row):
    """The hall behind all these goings, one behind the other."""
    for name in row:
        hall = gone(hall, name)
    return hall


def is_way(hall, thing):
    """Whether it is a list of names by which all go."""
    if not isinstance(thing, list):
        return False
    for name in thing:
        if not is_free(card_of(hall, name)):
            return False
        hall = gone(hall, name)
    return len(hall[1]) == 0
