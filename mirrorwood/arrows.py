"""Arrows: of two neighbours in an odd piece the faces alone tell which goes first."""

from mirrorwood.halls import card_of, near, pieces, reached


def is_odd(hall, names):
    """Whether an odd number of these names' cards are light."""
    return sum([card_of(hall, name)[0] for name in names]) % 2 == 1


def side(hall, one, other):
    """All that hang together with one when its tie to other is cut, rising."""
    wheel, places, ties = hall
    pair = (min(one, other), max(one, other))
    left = [tie for tie in ties if tie[:2] != pair]
    return sorted(reached((wheel, places, tuple(left)), one))


def all_earlier(hall):
    """Of each name of an odd piece the rising list of its earlier ones; other names aren't in it."""
    told = {}
    for piece in pieces(hall):
        if is_odd(hall, piece):
            told.update(earlier_within(hall, piece))
    return told


def earlier_within(hall, piece):
    """The same of all names of one odd piece."""
    towards = reached(hall, piece[0])
    lights = {name: card_of(hall, name)[0] for name in piece}
    told = {name: [] for name in piece}
    # From the far ends inwards: so each name's lights are those of its whole side when it's asked.
    for name in reversed(list(towards)):
        other = towards[name]
        if other is not None:
            lights[other] += lights[name]
            first, second = (name, other) if lights[name] % 2 == 1 else (other, name)
            told[second].append(first)
    return {name: sorted(told[name]) for name in piece}


def arrows(hall):
    """The pairs (first, later), one for each tie of an odd piece, rising."""
    told = all_earlier(hall)
    return sorted([(first, name) for name in told for first in told[name]])


def earlier(hall, name):
    """Its neighbours that go ahead of it, rising; none in a piece that isn't odd."""
    return all_earlier(hall).get(name, [])


def later(hall, name):
    """Its neighbours that go behind it, rising; none in a piece that isn't odd."""
    told = all_earlier(hall)
    return [other for other in near(hall, name) if name in told.get(other, [])]


def turned(hall, names):
    """The hall with just these cards' faces turned."""
    wheel, places, ties = hall
    anew = [(name, 1 - face if name in names else face, number) for name, face, number in places]
    return (wheel, tuple(anew), ties)


def faced(hall, arrows):
    """The hall with these arrows, all of its pieces odd."""
    wheel, places, ties = hall
    seconds = [second for first, second in arrows]
    # Light just where an even number turn it over ahead of its own going.
    anew = [(name, 1 - seconds.count(name) % 2, number) for name, face, number in places]
    return (wheel, tuple(anew), ties)
