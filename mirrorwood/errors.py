"""What the package refuses, a class for each kind.

The words are plain literals: to write out what is refused could itself fail,
as it does for a number of very many figures.
"""

from mirrorwood.plain import copied


class BadPlace(ValueError):
    def __init__(self, what):
        ValueError.__init__(self, "a place's name was there ahead of it")
        self.what = copied(what)


class BadTie(ValueError):
    def __init__(self, what):
        ValueError.__init__(self, "a tie can't stand in this hall")
        self.what = copied(what)


class BadText(ValueError):
    def __init__(self, what):
        ValueError.__init__(self, "a row of the text can't stand there")
        self.what = copied(what)


class BadRow(ValueError):
    def __init__(self, what):
        ValueError.__init__(self, "a row of the sheet isn't written as it must be")
        self.what = copied(what)


class MayNot(ValueError):
    def __init__(self, what):
        ValueError.__init__(self, "a place may not go")
        self.what = copied(what)


class Ring(ValueError):
    def __init__(self, what):
        ValueError.__init__(self, "a tie would close a ring")
        self.what = copied(what)


class Full(ValueError):
    def __init__(self, what):
        ValueError.__init__(self, "there is no room for more")
        self.what = copied(what)


class NoName(LookupError):
    def __init__(self, what):
        LookupError.__init__(self, "there is no place of this name")
        self.what = copied(what)


class NoTie(LookupError):
    def __init__(self, what):
        LookupError.__init__(self, "the two aren't tied")
        self.what = copied(what)


class NoNumber(LookupError):
    def __init__(self, what):
        LookupError.__init__(self, "there is no way home of this number")
        self.what = copied(what)


class NoDeed(LookupError):
    def __init__(self, what):
        LookupError.__init__(self, "there is no such deed")
        self.what = copied(what)


class NoWay(RuntimeError):
    def __init__(self, what):
        RuntimeError.__init__(self, "there is no way home")
        self.what = copied(what)


class Taken(RuntimeError):
    def __init__(self, what):
        RuntimeError.__init__(self, "there is a place of this name already")
        self.what = copied(what)
