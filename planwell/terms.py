"""Terms: each is told, shown, laid and so on by the class that it is of."""

from planwell.fractions import NOUGHT, minus, shown_fraction, sign
from planwell.sums import added, multiplied, negated, plain


class Term:
    # What every class below tells of itself; parts, entries and depth are alike for all that have no more to say.
    def parts(self):
        return ()

    def told(self):
        raise NotImplementedError("a term of no class tells nothing")

    def shown(self):
        raise NotImplementedError("a term of no class shows nothing")

    def put(self, binder, member):
        raise NotImplementedError("a term of no class has no keys")

    def laid(self, world):
        raise NotImplementedError("a term of no class is no sum")

    def entries(self):
        found = []
        for part in self.parts():
            found.extend(part.entries())
        return found

    def depth(self):
        return 1 + max([part.depth() for part in self.parts()], default=0)


class Number(Term):
    def __init__(self, fraction):
        self.worth = fraction

    def told(self):
        return ("number", self.worth)

    def shown(self):
        # No text tells a number below nought, so it is shown as the negative that it is read to.
        if sign(self.worth) < 0:
            above = shown_fraction(minus(NOUGHT, self.worth))
            return f"(- {above})"
        return shown_fraction(self.worth)

    def put(self, binder, member):
        return Number(self.worth)

    def laid(self, world):
        return plain(self.worth)


class Entry(Term):
    def __init__(self, name, keys):
        self.name = name
        self.places = tuple(keys)

    def told(self):
        return ("entry", self.name, self.places)

    def shown(self):
        if not self.places:
            return self.name
        name = self.name
        keys = ", ".join(self.places)
        return f"{name}({keys})"

    def put(self, binder, member):
        return Entry(self.name, tuple([member if key == binder else key for key in self.places]))

    def laid(self, world):
        return world.entry(self.name, self.places)

    def entries(self):
        return [(self.name, self.places)]


class Negative(Term):
    def __init__(self, one):
        self.one = one

    def parts(self):
        return (self.one,)

    def told(self):
        return ("negative", self.one.told())

    def shown(self):
        one = self.one.shown()
        return f"(- {one})"

    def put(self, binder, member):
        return Negative(self.one.put(binder, member))

    def laid(self, world):
        return negated(self.one.laid(world))


class Joined(Term):
    # Two terms with a mark between them; the classes under it say what the mark means.
    def __init__(self, word, mark, one, other):
        self.word = word
        self.mark = mark
        self.one = one
        self.other = other

    def parts(self):
        return (self.one, self.other)

    def told(self):
        return (self.word, self.one.told(), self.other.told())

    def shown(self):
        one = self.one.shown()
        mark = self.mark
        other = self.other.shown()
        return f"({one} {mark} {other})"


class Plus(Joined):
    def __init__(self, one, other):
        Joined.__init__(self, "plus", "+", one, other)

    def put(self, binder, member):
        return Plus(self.one.put(binder, member), self.other.put(binder, member))

    def laid(self, world):
        return added(self.one.laid(world), self.other.laid(world))


class Minus(Joined):
    def __init__(self, one, other):
        Joined.__init__(self, "minus", "-", one, other)

    def put(self, binder, member):
        return Minus(self.one.put(binder, member), self.other.put(binder, member))

    def laid(self, world):
        return added(self.one.laid(world), negated(self.other.laid(world)))


class Times(Joined):
    def __init__(self, one, other):
        Joined.__init__(self, "times", "*", one, other)

    def put(self, binder, member):
        return Times(self.one.put(binder, member), self.other.put(binder, member))

    def laid(self, world):
        return multiplied(self.one.laid(world), self.other.laid(world))


class Sum(Term):
    def __init__(self, binder, group, one):
        self.binder = binder
        self.group = group
        self.one = one

    def parts(self):
        return (self.one,)

    def told(self):
        return ("sum", self.binder, self.group, self.one.told())

    def shown(self):
        binder = self.binder
        group = self.group
        one = self.one.shown()
        return f"sum({binder} in {group}, {one})"

    def put(self, binder, member):
        # Within it the same name is this sum's own binder, and another one's no more.
        if binder == self.binder:
            return Sum(self.binder, self.group, self.one)
        return Sum(self.binder, self.group, self.one.put(binder, member))

    def laid(self, world):
        total = plain(NOUGHT)
        for member in world.members(self.group):
            total = added(total, self.one.put(self.binder, member).laid(world))
        return total
