"""Halls of the same ties: whether they have the same ways home, and a way that parts them."""

from mirrorwood.arrows import all_earlier, arrows
from mirrorwood.halls import names_of
from mirrorwood.home import way_home
from mirrorwood.rows import first_orders, just_ahead, row_by
from mirrorwood.seats import all_seatings, least_row


def signs(hall):
    """The arrows, and of each name, rising, its seatings."""
    seats = all_seatings(hall)
    return (arrows(hall), [(name, seats.get(name, [])) for name in names_of(hall)])


def same_ways(hall, other):
    """Whether each way home of the one is one of the other."""
    return signs(hall) == signs(other)


def parting(hall, other):
    """Which of the two, 0 or 1, has a way home that the other has not, and that way; None where there is none."""
    if arrows(hall) != arrows(other):
        # By an arrow turned about no way home of the one is one of the other.
        return (0, way_home(hall))
    row = own_way(hall, other)
    if row is not None:
        return (0, row)
    row = own_way(other, hall)
    if row is not None:
        return (1, row)
    return None


def own_way(hall, other):
    """A way home of hall by a seating that isn't good in other, which has the same arrows; None without one."""
    seats = all_seatings(hall)
    others = all_seatings(other)
    for name in seats:
        for seating in seats[name]:
            if seating not in others[name]:
                return way_seated(hall, name, seating)
    return None


def way_seated(hall, name, seating):
    """A way home in which this place's earlier ones sit so."""
    ahead = all_earlier(hall)
    orders = first_orders(ahead, all_seatings(hall))
    orders[name] = least_row(ahead[name], seating)
    return row_by(names_of(hall), just_ahead(orders))
