"""How early and how late a place can go in a way home.

What must go ahead of a place (or behind it, asked how late) is found from it
outwards. At a later place it has to stand first of that one's earlier ones;
where no good seating lets it, it stands second, and the one that is put first
brings along all that must go ahead of that one. Asked how late, the same is so
of the last in place of the first.
"""

from mirrorwood.arrows import all_earlier
from mirrorwood.halls import names_of, reached
from mirrorwood.home import refuse_barred
from mirrorwood.rows import all_ahead, first_orders, just_ahead, row_by
from mirrorwood.seats import all_seatings, least_row


def soonest(hall, name):
    """The least turn at which it goes in any way home, and a way home in which it does."""
    refuse_barred(hall)
    ahead = just_ahead(orders_around(hall, name, False))
    needed = all_ahead(ahead, name)
    others = [other for other in names_of(hall) if other != name and other not in needed]
    return turn_and_row(name, row_by([*needed, name, *others], ahead))


def latest(hall, name):
    """The greatest turn at which it goes in any way home, and a way home in which it does."""
    refuse_barred(hall)
    ahead = just_ahead(orders_around(hall, name, True))
    others = [other for other in names_of(hall) if other != name]
    # Last of all it goes just when all that are left must go behind it.
    return turn_and_row(name, row_by([*others, name], ahead))


def turn_and_row(name, row):
    return (row.index(name) + 1, row)


def orders_around(hall, name, late):
    """Of each place a good order of its earlier ones, by which this name goes as early, or as late, as it can."""
    ahead = all_earlier(hall)
    seats = all_seatings(hall)
    orders = first_orders(ahead, seats)
    towards = reached(hall, name)
    # Of each place how many on its side, itself among them, must go no later (no earlier, where late) than it.
    weights = {place: 1 for place in towards}
    # From the far ends inwards: so each place's own weight is whole when it's put to the next one's.
    for place in reversed(list(towards)):
        other = towards[place]
        if other in ahead[place]:
            end = end_for(other, ends_of(ahead[place], seats[place], late), weights)
            orders[place] = order_to(ahead[place], seats[place], other, end, late)
            weights[other] += (weights[end] if end != other else 0) + (weights[place] if late else 0)
        elif other is not None and not late:
            weights[other] += weights[place]
    return orders


def is_at_end(name, ahead, seating, late):
    """Whether by this seating it sits at turns of the same kind, odd or even, as the first, or last, turn is."""
    even = late and len(ahead) % 2 == 0
    return (name in seating) != even


def ends_of(ahead, seats, late):
    """All that can be the first, or last, of these."""
    return [name for name in ahead if any([is_at_end(name, ahead, seating, late) for seating in seats])]


def end_for(name, ends, weights):
    """Who stands at the end: this name if it can, else the one that brings along the fewest."""
    if name in ends:
        return name
    return min(ends, key=lambda other: weights[other])


def order_to(ahead, seats, name, end, late):
    """A good order with that one at its end, and this name there too or next to it."""
    seating = [some for some in seats if is_at_end(end, ahead, some, late)][0]
    rest = [other for other in ahead if other not in (name, end)]
    pair = [name] if name == end else [name, end]
    # Which of the pair is nearer to the end is told by their seats: they sit at turns of unlike kinds.
    row = rest + pair if late else pair + rest
    return least_row(row, [other for other in row if other in seating])
