"""The six deeds of a yard, each of a hall: the hall behind it, or a refusal; and what such a deed tells."""

from mirrorwood.arrows import arrows
from mirrorwood.cards import counted
from mirrorwood.errors import Full, NoName, NoTie, Ring, Taken
from mirrorwood.goings import gone
from mirrorwood.halls import card_of, laid, mirror_of, near, road
from mirrorwood.seats import all_seatings
from mirrorwood.wedging import without

MOST_PLACES = 24
MOST_TIES = 6


def need_name(hall, name):
    """Refuses a name that isn't there."""
    if card_of(hall, name) is None:
        raise NoName(name)


def put_place(hall, name, face, number):
    wheel, places, ties = hall
    if card_of(hall, name) is not None:
        raise Taken(name)
    if len(places) >= MOST_PLACES:
        raise Full(name)
    return (wheel, tuple(sorted([*places, (name, face, counted(wheel, number))])), ties)


def lay_card(hall, name, face, number):
    need_name(hall, name)
    return laid(hall, name, (face, counted(hall[0], number)))


def tie_two(hall, one, other, mirror):
    need_name(hall, one)
    need_name(hall, other)
    names = road(hall, one, other)
    if names is not None:
        raise Ring(names)
    for name in (one, other):
        if len(near(hall, name)) >= MOST_TIES:
            raise Full(name)
    wheel, places, ties = hall
    new = (min(one, other), max(one, other), counted(wheel, mirror))
    return (wheel, places, tuple(sorted([*ties, new])))


def cut_two(hall, one, other):
    need_name(hall, one)
    need_name(hall, other)
    if mirror_of(hall, one, other) is None:
        raise NoTie(None)
    wheel, places, ties = hall
    return (wheel, places, tuple([tie for tie in ties if tie[:2] not in ((one, other), (other, one))]))


def drop_place(hall, name):
    need_name(hall, name)
    return without(hall, [name])


def go_place(hall, name):
    need_name(hall, name)
    return gone(hall, name)


STEPS = {
    "put": put_place,
    "lay": lay_card,
    "tie": tie_two,
    "cut": cut_two,
    "drop": drop_place,
    "go": go_place,
}


def stepped(hall, word, handed):
    """The hall behind the deed of this word."""
    step = STEPS[word]
    return step(hall, *handed)


def others_now(hall, anew):
    """The ties whose arrows, and the names whose seatings, are others in the hall anew, of those in both."""
    arrow = arrow_of_each(hall)
    later = arrow_of_each(anew)
    seats = seats_of_each(hall)
    there = seats_of_each(anew)
    ties = [pair for pair in arrow if pair in later and arrow[pair] != later[pair]]
    return (ties, [name for name in seats if name in there and seats[name] != there[name]])


def arrow_of_each(hall):
    """Of the two names of each tie, rising, its arrow; None in a piece that isn't odd."""
    told = {(one, other): None for one, other, mirror in hall[2]}
    for first, second in arrows(hall):
        told[(min(first, second), max(first, second))] = (first, second)
    return told


def seats_of_each(hall):
    """Of each name, rising, its seatings."""
    seats = all_seatings(hall)
    return {name: seats.get(name, []) for name, face, number in hall[1]}
