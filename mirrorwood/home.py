"""Ways home, or what bars them; which goings are good, and why others aren't."""

from mirrorwood.arrows import all_earlier, is_odd
from mirrorwood.cards import is_free
from mirrorwood.errors import NoWay
from mirrorwood.goings import gone, may_go
from mirrorwood.halls import card_of, near, pieces
from mirrorwood.seats import all_seatings


def bars(hall):
    """All that bars a way home: pieces that aren't odd, then places without a good seating."""
    seats = all_seatings(hall)
    even = [("even", piece) for piece in pieces(hall) if not is_odd(hall, piece)]
    return even + [("seats", name) for name in seats if not seats[name]]


def shows_bar(hall, thing):
    return thing in bars(hall)


def way_home(hall):
    """The least way home; None where there is none."""
    if bars(hall):
        return None
    row = []
    while hall[1]:
        # A good going leaves a hall with a way home, so there is always a next one.
        name = good_goings(hall)[0]
        row.append(name)
        hall = gone(hall, name)
    return row


def good(hall):
    """The names behind whose going there is a way home, rising."""
    if bars(hall):
        return []
    return good_goings(hall)


def good_goings(hall):
    """The same of a hall that has a way home."""
    ahead = all_earlier(hall)
    seats = all_seatings(hall)
    return [name for name in may_go(hall) if hindrance(hall, ahead, seats, name) is None]


def refuse_barred(hall):
    """Refuses a hall that has no way home, with its first bar."""
    barred = bars(hall)
    if barred:
        raise NoWay(barred[0])


def why_not(hall, name):
    """Why its going isn't good; None where it is."""
    refuse_barred(hall)
    return hindrance(hall, all_earlier(hall), all_seatings(hall), name)


def hindrance(hall, ahead, seats, name):
    """The same, by the earlier ones and the seatings of each place of a hall that has a way home."""
    if not is_free(card_of(hall, name)):
        return ("card",)
    if ahead[name]:
        return ("arrow", ahead[name][0])
    # Without earlier ones all its neighbours are later ones, and its going is the first turn of each.
    for other in near(hall, name):
        if not any([name in seating for seating in seats[other]]):
            return ("seat", other)
    return None
