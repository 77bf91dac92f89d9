"""A place among words, and what is taken there: what isn't as it is wanted is refused with BadText."""

from planwell.errors import BadText
from planwell.fractions import NOUGHT, fraction, minus

# The words of letters that are no names.
KEPT_WORDS = (
    "set", "table", "unknown", "over", "whole", "from", "to", "row", "each", "in", "sum", "least", "most",
)


class Cursor:
    def __init__(self, held, at):
        self.held = held
        self.at = at

    def seen(self):
        # Behind the last word the empty text is seen, which no word is like.
        if self.at < len(self.held):
            return self.held[self.at]
        return ""

    def passes(self, word):
        if self.seen() != word:
            return False
        self.at += 1
        return True

    def wants(self, word):
        if not self.passes(word):
            raise BadText(f"{word!r} is wanted")

    def take_name(self):
        word = self.seen()
        if not word.isalpha() or word in KEPT_WORDS:
            raise BadText("a name is wanted")
        self.at += 1
        return word

    def take_names(self, most):
        names = [self.take_name()]
        while self.passes(","):
            names.append(self.take_name())
        if len(names) > most:
            raise BadText("there are more names than may stand here")
        return tuple(names)

    def sees_number(self):
        return self.seen().isdigit()

    def take_number(self):
        if not self.sees_number():
            raise BadText("a number is wanted")
        word = self.seen()
        self.at += 1
        return int(word)

    def take_ratio(self):
        top = self.take_number()
        if not self.passes("/"):
            return fraction(top)
        bottom = self.take_number()
        if bottom == 0:
            raise BadText("a number is divided by 0")
        return fraction(top, bottom)

    def take_value(self):
        if self.passes("-"):
            return minus(NOUGHT, self.take_ratio())
        return self.take_ratio()

    def take_keys(self):
        keys = self.take_names(2)
        self.wants(")")
        return keys
