"""The least price of places wedged by which there is a way home, and numbers that show that no less does.

For each name cut is the least price of itself wedged and of all that hang by
it; out and in are those of all that hang by it when it stays unwedged, in
where the one that it hangs by goes ahead of it, out where not. None is above
all numbers: there is no such way.
"""

from mirrorwood.halls import names_of
from mirrorwood.hanging import above, below, fits, hanging, is_table, sets_of
from mirrorwood.plain import is_number


def without(hall, names):
    """The hall without these names and their ties, no card mirrored."""
    wheel, places, ties = hall
    left = [place for place in places if place[0] not in names]
    tied = [tie for tie in ties if tie[0] not in names and tie[1] not in names]
    return (wheel, tuple(left), tuple(tied))


def together(parts):
    """All these numbers together; None where one of them is."""
    return None if None in parts else sum(parts)


def lesser(one, other):
    """The lesser of two, None above all numbers."""
    if one is None or (other is not None and other < one):
        return other
    return one


def is_less(one, other):
    """Whether the one is less than the other, None above all numbers."""
    return one is not None and (other is None or one < other)


def least_wedged(hall, prices):
    """The least price, the names, and a table that shows that no less does."""
    hangs = hanging(hall)
    costs = {name: price for name, price in prices}
    table = {}
    sets = {}
    hung = below(hangs)
    # From the ends to the roots: what hangs by a name is known ahead of it.
    for name in reversed(list(hangs)):
        known = {other: table[other] for other in hung[name]}
        out, outset = least_of(kept_sums(hall, name, known, []))
        within, inset = least_of(kept_sums(hall, name, known, above(hangs, name)))
        table[name] = (out, within, cut_sum(costs[name], known))
        sets[name] = (outset, inset)
    names = wedged(hangs, table, sets)
    rows = [(name, *table[name]) for name in names_of(hall)]
    return (sum([costs[name] for name in names]), names, rows)


def kept_sums(hall, name, known, more):
    """Of each set of those that hang by it that its card fits with more put to it: the sum and the set."""
    told = []
    for some in sets_of(list(known)):
        if fits(hall, name, some + more):
            parts = [out if other in some else lesser(within, cut) for other, (out, within, cut) in known.items()]
            told.append((together(parts), some))
    return told


def cut_sum(cost, known):
    """The price of the wedged one with the least of all that hang by it."""
    return together([cost] + [lesser(out, cut) for out, within, cut in known.values()])


def least_of(sums):
    """The least sum with its set; None twice where there is no number among them."""
    return min([(total, some) for total, some in sums if total is not None], default=(None, None))


def wedged(hangs, table, sets):
    """The rising list of the names that are wedged by the least sums, found from the roots outwards."""
    # Of each name that stays the set of those that hang by it and go ahead of it; None of a wedged one.
    stays = {}
    for name in hangs:
        out, within, cut = table[name]
        other = hangs[name]
        if other is None or stays[other] is None:
            stays[name] = None if is_less(cut, out) else sets[name][0]
        elif name in stays[other]:
            stays[name] = sets[name][0]
        else:
            stays[name] = None if is_less(cut, within) else sets[name][1]
    return sorted([name for name in stays if stays[name] is None])


def shows_wedged(hall, prices, price, thing):
    """Whether it is a table that shows that no less than price does."""
    if not is_table(hall, thing, 4):
        return False
    if not all([part is None or is_number(part) for row in thing for part in row[1:]]):
        return False
    hangs = hanging(hall)
    costs = {name: cost for name, cost in prices}
    table = {name: (out, within, cut) for name, out, within, cut in thing}
    if not all([holds_wedged(hall, costs[name], hangs, table, name) for name in hangs]):
        return False
    roots = [table[name] for name in hangs if hangs[name] is None]
    return not is_less(together([lesser(out, cut) for out, within, cut in roots]), price)


def holds_wedged(hall, cost, hangs, table, name):
    """Whether no sum of this name is less than its out, its cut or, but of a root, its in."""
    out, within, cut = table[name]
    known = {other: table[other] for other in below(hangs)[name]}
    if is_less(cut_sum(cost, known), cut):
        return False
    if any([is_less(total, out) for total, some in kept_sums(hall, name, known, [])]):
        return False
    if hangs[name] is None:
        return True
    return not any([is_less(total, within) for total, some in kept_sums(hall, name, known, above(hangs, name))])
