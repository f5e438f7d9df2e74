"""What all files of the package need to know of plain values."""


def is_number(thing):
    # Python counts True and False among its whole numbers; here they are none.
    return isinstance(thing, int) and not isinstance(thing, bool)


def is_name(thing):
    if not isinstance(thing, str) or not 1 <= len(thing) <= 8:
        return False
    return all(["a" <= sign <= "z" for sign in thing])


def rises(row):
    """Whether each item is above the one ahead of it; so none stands twice."""
    return all([low < high for low, high in zip(row, row[1:])])


def copied(thing):
    """The same value, with no list of it shared."""
    if isinstance(thing, list):
        return [copied(part) for part in thing]
    if isinstance(thing, tuple):
        return tuple([copied(part) for part in thing])
    return thing
