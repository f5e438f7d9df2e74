"""A desk: a sheet of deeds and asks, and an answer to each."""

from mirrorwood.arrows import arrows
from mirrorwood.cards import is_wheel
from mirrorwood.errors import BadRow, Full, MayNot, NoDeed, NoName, NoTie, NoWay, Ring, Taken
from mirrorwood.halls import names_of
from mirrorwood.home import bars, good, way_home, why_not
from mirrorwood.mending import least_laid
from mirrorwood.plain import is_name
from mirrorwood.seats import seatings
from mirrorwood.turns import latest, soonest
from mirrorwood.wedging import least_wedged
from mirrorwood.words import face_in, number_in
from mirrorwood.yard import Yard

MOST_NUMBER = 999999

DEEDS = ("put", "lay", "tie", "cut", "drop", "go")

# What stands behind the word of each row.
FORMS = {
    "wheel": ("wheel",),
    "put": ("name", "face", "number"),
    "lay": ("name", "face", "number"),
    "tie": ("name", "name", "number"),
    "cut": ("name", "name"),
    "drop": ("name",),
    "go": ("name",),
    "undo": (),
    "arrows": (),
    "seats": ("name",),
    "bars": (),
    "home": (),
    "good": (),
    "why": ("name",),
    "soonest": ("name",),
    "latest": ("name",),
    "mend": (),
    "wedge": (),
}


def run(text):
    """The list of answers to a sheet."""
    sheet = sheet_in(text.split("\n"))
    yard = Yard(sheet[0][1])
    return [answer(yard, word, handed) for word, *handed in sheet[1:]]


def sheet_in(rows):
    """Of each row with signs its word and what it's handed."""
    told = []
    for at, row in enumerate(rows):
        if row != "":
            deed = row_in(row.split(" "))
            # The wheel stands ahead of all else, and nowhere else.
            if deed is None or (deed[0] == "wheel") != (len(told) == 0):
                raise BadRow(at)
            told.append(deed)
    if not told:
        raise BadRow(len(rows))
    return told


def row_in(words):
    """The word of a row and what it's handed; None where it isn't so written."""
    word, *others = words
    if word not in FORMS or len(others) != len(FORMS[word]):
        return None
    handed = [read(kind, other) for kind, other in zip(FORMS[word], others)]
    return None if None in handed else (word, *handed)


def read(kind, word):
    """What is written by this word, of that kind; None where it isn't so written."""
    if kind == "name":
        return word if is_name(word) else None
    if kind == "face":
        return face_in(word)
    number = number_in(word)
    if kind == "wheel":
        return number if is_wheel(number) else None
    return number if number is not None and abs(number) <= MOST_NUMBER else None


def answer(yard, word, handed):
    """The answer to one row."""
    try:
        return deed_text(yard, word, handed) if word in DEEDS else ask_text(yard, word, handed)
    except Taken:
        return "refused Taken"
    except Full:
        return "refused Full"
    except NoName:
        return "refused NoName"
    except Ring:
        return "refused Ring"
    except NoTie:
        return "refused NoTie"
    except MayNot:
        return "refused MayNot"
    except NoDeed:
        return "refused NoDeed"
    except NoWay:
        return "refused NoWay"


def deed_text(yard, word, handed):
    ties, names = yard.do([(word, *handed)])[0]
    return " ".join(["done"] + [f"{one}-{other}" for one, other in ties] + names)


def ask_text(yard, word, handed):
    if word == "undo":
        yard.undo()
        return "done"
    for name in handed:
        if not yard.has(name):
            raise NoName(name)
    hall = yard.hall()
    ask = ASKS[word]
    return ask(hall, *handed) or "-"


def arrows_text(hall):
    return " ".join([f"{first}>{second}" for first, second in arrows(hall)])


def seats_text(hall, name):
    return " ".join(["+".join(seating) or "0" for seating in seatings(hall, name)])


def bars_text(hall):
    return " / ".join([bar_text(bar) for bar in bars(hall)])


def bar_text(bar):
    kind, told = bar
    return " ".join(["even"] + told) if kind == "even" else f"seats {told}"


def home_text(hall):
    return " ".join(way_home(hall) or [])


def good_text(hall):
    return " ".join(good(hall))


def why_text(hall, name):
    return " ".join(why_not(hall, name) or ("good",))


def soonest_text(hall, name):
    return str(soonest(hall, name)[0])


def latest_text(hall, name):
    return str(latest(hall, name)[0])


def mend_text(hall):
    return str(least_laid(hall, prices_of_1(hall))[0])


def wedge_text(hall):
    return str(least_wedged(hall, prices_of_1(hall))[0])


def prices_of_1(hall):
    return [(name, 1) for name in names_of(hall)]


ASKS = {
    "arrows": arrows_text,
    "seats": seats_text,
    "bars": bars_text,
    "home": home_text,
    "good": good_text,
    "why": why_text,
    "soonest": soonest_text,
    "latest": latest_text,
    "mend": mend_text,
    "wedge": wedge_text,
}
