"""Halls as texts, and back."""

from mirrorwood.cards import is_wheel
from mirrorwood.errors import BadText
from mirrorwood.halls import is_hall
from mirrorwood.words import face_in, face_word, number_in


def hall_text(hall):
    """A row of the wheel, one of each place, one of each tie."""
    wheel, places, ties = hall
    rows = [f"wheel {wheel}"]
    rows += [f"place {name} {face_word(face)} {number}" for name, face, number in places]
    rows += [f"tie {one} {other} {mirror}" for one, other, mirror in ties]
    return "\n".join(rows)


def hall_in(text):
    """The hall whose text it is."""
    rows = text.split("\n")
    hall = bare_hall(rows[0].split(" "))
    if hall is None:
        raise BadText(0)
    for at in range(1, len(rows)):
        hall = with_row(hall, rows[at].split(" "))
        if hall is None:
            raise BadText(at)
    return hall


def bare_hall(words):
    """The hall without places of a row of the wheel; None where it's no such row."""
    if len(words) != 2 or words[0] != "wheel" or not is_wheel(number_in(words[1])):
        return None
    return (number_in(words[1]), (), ())


def with_row(hall, words):
    """The hall with the place or the tie of this row put behind all others; None where it can't stand there."""
    if len(words) != 4:
        return None
    wheel, places, ties = hall
    kind, one, other, figures = words
    if kind == "place" and not ties:
        anew = (wheel, (*places, (one, face_in(other), number_in(figures))), ties)
    elif kind == "tie":
        anew = (wheel, places, (*ties, (one, other, number_in(figures))))
    else:
        return None
    # What is no name, no face, no counted number, or doesn't rise, makes no hall.
    return anew if is_hall(anew) else None
