"""How many ways home there are, and which number each has among all of them, rising."""

from mirrorwood.errors import NoNumber
from mirrorwood.goings import gone, may_go


def ways(hall):
    """How many ways home there are."""
    return ways_left(hall, {})


def ways_left(hall, known):
    """The same, kept in known by the places: the ties that are left follow from them."""
    places = hall[1]
    if not places:
        return 1
    if places not in known:
        known[places] = sum([ways_left(gone(hall, name), known) for name in may_go(hall)])
    return known[places]


def way_at(hall, number):
    """Of all ways home, rising, the one of that number."""
    known = {}
    if not 0 <= number < ways_left(hall, known):
        raise NoNumber(number)
    row = []
    # How many ways stand ahead of it among those that begin as the row does.
    left = number
    while hall[1]:
        for name in may_go(hall):
            many = ways_left(gone(hall, name), known)
            if left < many:
                break
            left -= many
        row.append(name)
        hall = gone(hall, name)
    return row


def number_of(hall, row):
    """The number of a way home among all of them, rising."""
    known = {}
    number = 0
    for name in row:
        lesser = [other for other in may_go(hall) if other < name]
        number += sum([ways_left(gone(hall, other), known) for other in lesser])
        hall = gone(hall, name)
    return number
