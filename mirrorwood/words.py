"""Words of texts: faces, and numbers in plain figures."""

FIGURES = "0123456789"


def face_word(face):
    return "light" if face == 1 else "dark"


def face_in(word):
    """The face that is called so; None where none is."""
    if word == "light":
        return 1
    return 0 if word == "dark" else None


def number_in(word):
    """The number that is so written in plain figures, a minus ahead of those below 0; None where none is."""
    below = word.startswith("-")
    figures = word[1:] if below else word
    if figures == "" or not all([figure in FIGURES for figure in figures]):
        return None
    if figures[0] == "0" and word != "0":
        return None
    number = 0
    # Not by int(..): it refuses numbers of very many figures.
    for figure in figures:
        number = number * 10 + FIGURES.index(figure)
    return -number if below else number
