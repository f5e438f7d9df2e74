"""Wheels and cards: a card is a pair (face, number), face 1 light, 0 dark."""

from mirrorwood.plain import is_number


def is_wheel(thing):
    return is_number(thing) and 0 <= thing <= 60


def counted(wheel, number):
    """What is left of the number on the wheel; all of it with the wheel 0."""
    if wheel == 0:
        return number
    return number % wheel


def is_counted(wheel, thing):
    return is_number(thing) and counted(wheel, thing) == thing


def is_card(wheel, thing):
    if not isinstance(thing, tuple) or len(thing) != 2:
        return False
    face, number = thing
    return is_number(face) and 0 <= face <= 1 and is_counted(wheel, number)


def mirrored(wheel, card, mirror):
    """The card turned over, its number mirrored."""
    face, number = card
    return (1 - face, counted(wheel, mirror - number))


def is_free(card):
    # A card of any wheel is one of the wheel 0; asked first, since (True, 0) equals (1, 0).
    return is_card(0, card) and card == (1, 0)
