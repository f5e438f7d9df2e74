"""A yard: a hall kept over many deeds, each of which can be undone."""

from mirrorwood.errors import NoDeed
from mirrorwood.halls import names_of
from mirrorwood.steps import others_now, stepped


class Yard:
    def __init__(self, wheel):
        # The pairs (hall, names gone) behind each deed that stands, ahead of them the bare one.
        self.states = [((wheel, (), ()), ())]
        self.noted = []

    def put(self, name, face, number):
        """A new place."""
        return self.one_deed("put", (name, face, number))

    def lay(self, name, face, number):
        """Another card, or the same."""
        return self.one_deed("lay", (name, face, number))

    def tie(self, one, other, mirror):
        return self.one_deed("tie", (one, other, mirror))

    def cut(self, one, other):
        return self.one_deed("cut", (one, other))

    def drop(self, name):
        """The place and its ties are gone, no card is mirrored."""
        return self.one_deed("drop", (name,))

    def go(self, name):
        """The place goes, and mirrors its neighbours' cards."""
        return self.one_deed("go", (name,))

    def one_deed(self, word, handed):
        """One of the six deeds as a deed of its own; what it tells."""
        state, told = self.noted_step(self.states[-1], word, handed)
        self.states.append(state)
        return told

    def noted_step(self, state, word, handed):
        """The state behind one of the six deeds, and what it tells; just the log is changed."""
        self.noted.append(("in", word))
        try:
            hall, row = state
            anew = stepped(hall, word, handed)
            left = (*row, *handed) if word == "go" else row
            return ((anew, left), others_now(hall, anew))
        finally:
            self.noted.append(("out", word))

    def do(self, deeds):
        """All these deeds as one; the list of what they tell."""
        self.noted.append(("in", "do"))
        try:
            state = self.states[-1]
            told = []
            for word, *handed in deeds:
                state, answer = self.noted_step(state, word, handed)
                told.append(answer)
            self.states.append(state)
            return told
        finally:
            self.noted.append(("out", "do"))

    def undo(self):
        """The last deed that stands is as if it had never been."""
        self.noted.append(("in", "undo"))
        try:
            if self.deeds() == 0:
                raise NoDeed(None)
            self.states.pop()
        finally:
            self.noted.append(("out", "undo"))

    def hall(self):
        return self.states[-1][0]

    def gone_row(self):
        """All names that went, by deeds that stand, in order."""
        return list(self.states[-1][1])

    def deeds(self):
        """How many deeds stand."""
        return len(self.states) - 1

    def as_of(self, many):
        """A yard of its own, as this one was behind its first deeds, so many."""
        if not 0 <= many <= self.deeds():
            raise NoDeed(None)
        other = Yard(self.hall()[0])
        other.states = self.states[:many + 1]
        return other

    def twin(self):
        return self.as_of(self.deeds())

    def log(self):
        """What was begun and what ended, in order, refused or not."""
        return list(self.noted)

    def has(self, thing):
        """Whether it is the name of a place there."""
        return thing in self.names()

    def names(self):
        return names_of(self.hall())

    def __len__(self):
        return len(self.hall()[1])

    def __eq__(self, other):
        return isinstance(other, Yard) and self.hall() == other.hall()

    def __repr__(self):
        return f"Yard({self.hall()[0]}, {len(self)})"
