"""Seatings: which of a place's earlier ones go at odd turns, so that it's free behind them all."""

from mirrorwood.arrows import all_earlier, earlier
from mirrorwood.cards import counted
from mirrorwood.halls import card_of, mirror_of, names_of


def seatings(hall, name):
    """The good seatings of this place, rising; none in a piece that isn't odd."""
    told = all_earlier(hall)
    if name not in told:
        return []
    return good_seatings(hall, name, told[name])


def all_seatings(hall):
    """Of each name of an odd piece, names rising, its good seatings; other names aren't in it."""
    told = all_earlier(hall)
    return {name: good_seatings(hall, name, told[name]) for name in names_of(hall) if name in told}


def good_seatings(hall, name, ahead):
    """The good seatings of a place of an odd piece whose earlier ones are these."""
    mirrors = {other: mirror_of(hall, name, other) for other in ahead}
    together = sum([mirrors[other] for other in ahead])
    number = card_of(hall, name)[1]
    told = []
    for seating in chosen(ahead, odd_turns(ahead)):
        odd = sum([mirrors[other] for other in seating])
        if counted(hall[0], odd - (together - odd)) == number:
            told.append(seating)
    return told


def odd_turns(ahead):
    """How many turns of a row of these are odd, the first one among them."""
    return (len(ahead) + 1) // 2


def chosen(names, many):
    """The tuples of that many of the rising names, rising."""
    if many == 0:
        return [()]
    told = []
    for at, name in enumerate(names):
        for others in chosen(names[at + 1:], many - 1):
            told.append((name, *others))
    return told


def orders(hall, name):
    """In how many orders its earlier ones can go so that it's free behind them."""
    ahead = earlier(hall, name)
    odd = odd_turns(ahead)
    return len(seatings(hall, name)) * factorial(odd) * factorial(len(ahead) - odd)


def factorial(many):
    product = 1
    for factor in range(2, many + 1):
        product *= factor
    return product


def is_order(hall, name, thing):
    """Whether it is a list of all its earlier ones in such an order."""
    ahead = earlier(hall, name)
    if not isinstance(thing, list) or len(thing) != len(ahead):
        return False
    # As many, and none of them left out: so nothing else is in it, of whatever kind.
    if not all([other in thing for other in ahead]):
        return False
    return tuple(sorted(thing[::2])) in seatings(hall, name)


def least_order(hall, name):
    """The least such list; None where there is none."""
    ahead = earlier(hall, name)
    return min([least_row(ahead, seating) for seating in seatings(hall, name)], default=None)


def least_row(ahead, seating):
    """The least row of all these in which just those of the seating are at odd turns."""
    others = [name for name in ahead if name not in seating]
    return [others[at // 2] if at % 2 == 1 else seating[at // 2] for at in range(len(ahead))]
