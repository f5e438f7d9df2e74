"""The least price of cards laid anew by which there is a way home, and numbers that show that no less does.

A hall has a way home just where its ties can be made arrows so that each card
fits the set of its earlier ones. For each name out is the least price of all
that hang by it and of itself when it goes ahead of the one that it hangs by,
in when it goes behind that one.
"""

from mirrorwood.cards import counted
from mirrorwood.halls import laid, mirror_of, names_of
from mirrorwood.hanging import above, below, fits, hanging, is_table, sets_of
from mirrorwood.plain import is_number
from mirrorwood.seats import odd_turns


def least_laid(hall, prices):
    """The least price, the hall with other cards, and a table that shows that no less does."""
    hangs = hanging(hall)
    costs = {name: price for name, price in prices}
    outs, ins = least_sums(hall, costs, hangs)
    price = sum([outs[name][0] for name in hangs if hangs[name] is None])
    table = [(name, outs[name][0], ins[name][0]) for name in names_of(hall)]
    return (price, mended(hall, all_earlier_sets(hangs, outs, ins)), table)


def least_sums(hall, costs, hangs):
    """Of each name the pairs (out, set) and (in, set): set those that hang by it and go ahead of it then."""
    outs = {}
    ins = {}
    hung = below(hangs)
    # From the ends to the roots: what hangs by a name is known ahead of it.
    for name in reversed(list(hangs)):
        known = {other: (outs[other][0], ins[other][0]) for other in hung[name]}
        outs[name] = min(laid_sums(hall, costs[name], name, known, []))
        ins[name] = min(laid_sums(hall, costs[name], name, known, above(hangs, name)))
    return (outs, ins)


def laid_sums(hall, cost, name, known, more):
    """Of each set of those that hang by it, (out, in) of each in known: the sum and the set, more put to it to fit."""
    told = []
    for some in sets_of(list(known)):
        together = sum([known[other][0] if other in some else known[other][1] for other in known])
        told.append((together + (0 if fits(hall, name, some + more) else cost), some))
    return told


def all_earlier_sets(hangs, outs, ins):
    """Of each name the list of those that go ahead of it by the least sums, from the roots outwards."""
    told = {}
    for name in hangs:
        other = hangs[name]
        if other is None or name in told[other]:
            told[name] = outs[name][1]
        else:
            told[name] = [*ins[name][1], other]
    return told


def mended(hall, ahead):
    """The hall with another card wherever the card doesn't fit those that go ahead of it."""
    told = hall
    for name in ahead:
        if not fits(hall, name, ahead[name]):
            told = laid(told, name, fitting_card(hall, name, ahead[name]))
    return told


def fitting_card(hall, name, others):
    """A card that fits this set of its neighbours."""
    mirrors = [mirror_of(hall, name, other) for other in others]
    odd = odd_turns(others)
    return (1 - len(others) % 2, counted(hall[0], sum(mirrors[:odd]) - sum(mirrors[odd:])))


def shows_laid(hall, prices, price, thing):
    """Whether it is a table that shows that no less than price does."""
    if not is_table(hall, thing, 3) or not all([is_number(part) for row in thing for part in row[1:]]):
        return False
    hangs = hanging(hall)
    costs = {name: cost for name, cost in prices}
    table = {name: (out, within) for name, out, within in thing}
    if not all([holds_laid(hall, costs[name], hangs, table, name) for name in hangs]):
        return False
    return price <= sum([table[name][0] for name in hangs if hangs[name] is None])


def holds_laid(hall, cost, hangs, table, name):
    """Whether no sum of this name is less than its out or, but of a root, than its in."""
    out, within = table[name]
    known = {other: table[other] for other in below(hangs)[name]}
    if not all([out <= total for total, some in laid_sums(hall, cost, name, known, [])]):
        return False
    if hangs[name] is None:
        return True
    return all([within <= total for total, some in laid_sums(hall, cost, name, known, above(hangs, name))])
