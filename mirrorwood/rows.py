"""Ways home put together: an order of its earlier ones at each place, then one row that keeps to them all.

Ties close no ring, so such orders never gainsay each other, whichever good one is taken at each place.
"""

from mirrorwood.seats import least_row


def first_orders(ahead, seats):
    """Of each name one good order of its earlier ones, by all earlier ones and seatings of a hall with a way home."""
    return {name: least_row(ahead[name], seats[name][0]) for name in ahead}


def just_ahead(orders):
    """Of each name all that stand just ahead of it in one of these orders, or last in its own."""
    told = {name: [] for name in orders}
    for name in orders:
        chain = [*orders[name], name]
        for low, high in zip(chain, chain[1:]):
            told[high].append(low)
    return told


def all_ahead(ahead, name):
    """All that go ahead of this name, by those that are just ahead of each."""
    found = {}
    waiting = [name]
    while waiting:
        high = waiting.pop()
        for low in ahead[high]:
            if low not in found:
                found[low] = True
                waiting.append(low)
    return list(found)


def row_by(names, ahead):
    """All these names in one row, each behind those just ahead of it: at each turn the first of them that can go."""
    row = []
    left = list(names)
    while left:
        ready = [name for name in left if all([other in row for other in ahead[name]])]
        row.append(ready[0])
        left.remove(ready[0])
    return row
