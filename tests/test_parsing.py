"""Promises 7 and 8: terms, what binds least first, and how deep they may be."""

from planwell.errors import BadText
from planwell.parsing import term_of
from planwell.words import words
from tests.asking import Asking

KEPT = "set table unknown over whole from to row each in sum least most".split()
A = ("entry", "a", ())
B = ("entry", "b", ())
C = ("entry", "c", ())
ONE = ("number", (1, 1))


def told(text):
    held = words(text)
    term, behind = term_of(held, 0)
    assert behind == len(held), text
    return term.told()


def length(text):
    return term_of(words(text), 0)[1]


class Marks(Asking):
    def test_from_the_left(self):
        for mark, word in [("+", "plus"), ("-", "minus"), ("*", "times")]:
            self.assertEqual(told(f"a {mark} b"), (word, A, B))
            self.assertEqual(told(f"a {mark} b {mark} c"), (word, (word, A, B), C))
            self.assertEqual(told(f"a {mark} (b {mark} c)"), (word, A, (word, B, C)))
        self.assertEqual(told("a - b + c"), ("plus", ("minus", A, B), C))
        self.assertEqual(told("a + b - c"), ("minus", ("plus", A, B), C))

    def test_times_binds_more(self):
        self.assertEqual(told("a + b * c"), ("plus", A, ("times", B, C)))
        self.assertEqual(told("a * b + c"), ("plus", ("times", A, B), C))
        self.assertEqual(told("a - b * c"), ("minus", A, ("times", B, C)))
        self.assertEqual(told("a * b - c"), ("minus", ("times", A, B), C))
        self.assertEqual(told("(a + b) * c"), ("times", ("plus", A, B), C))
        self.assertEqual(told("a * (b - c)"), ("times", A, ("minus", B, C)))

    def test_a_minus_ahead(self):
        self.assertEqual(told("- a"), ("negative", A))
        self.assertEqual(told("--a"), ("negative", ("negative", A)))
        self.assertEqual(told("- 3"), ("negative", ("number", (3, 1))))
        self.assertEqual(told("-3/6"), ("negative", ("number", (1, 2))))
        self.assertEqual(told("- (a + b)"), ("negative", ("plus", A, B)))
        self.assertEqual(told("-b(k)"), ("negative", ("entry", "b", ("k",))))
        self.assertEqual(told("- sum(k in s, a)"), ("negative", ("sum", "k", "s", A)))
        self.assertEqual(told("- a * b"), ("times", ("negative", A), B))
        self.assertEqual(told("- a + b"), ("plus", ("negative", A), B))
        self.assertEqual(told("a * - b * c"), ("times", ("times", A, ("negative", B)), C))
        self.assertEqual(told("a - - b"), ("minus", A, ("negative", B)))
        self.assertEqual(told("a+-b"), ("plus", A, ("negative", B)))
        self.assertEqual(told("- (a * b)"), ("negative", ("times", A, B)))


class Parts(Asking):
    def test_numbers(self):
        self.assertEqual(told("0"), ("number", (0, 1)))
        self.assertEqual(told("7"), ("number", (7, 1)))
        self.assertEqual(told("999999999"), ("number", (999999999, 1)))
        self.assertEqual(told("5/2"), ("number", (5, 2)))
        self.assertEqual(told("6 / 4"), ("number", (3, 2)))
        self.assertEqual(told("0/9"), ("number", (0, 1)))
        self.assertEqual(told("8/4 * a"), ("times", ("number", (2, 1)), A))

    def test_entries(self):
        self.assertEqual(told("a"), A)
        self.assertEqual(told("a(b)"), ("entry", "a", ("b",)))
        self.assertEqual(told("a ( b , c )"), ("entry", "a", ("b", "c")))
        self.assertEqual(told("a(a, a)"), ("entry", "a", ("a", "a")))

    def test_brackets(self):
        self.assertEqual(told("(a)"), A)
        self.assertEqual(told("((7))"), ("number", (7, 1)))
        self.assertEqual(told("((a) * ((b)))"), ("times", A, B))

    def test_sums(self):
        self.assertEqual(told("sum(k in s, a(k))"), ("sum", "k", "s", ("entry", "a", ("k",))))
        self.assertEqual(told("sum(k in s, a + b) * c"), ("times", ("sum", "k", "s", ("plus", A, B)), C))
        self.assertEqual(
            told("sum(k in s, sum(k in s, sum(k in k, 1)))"),
            ("sum", "k", "s", ("sum", "k", "s", ("sum", "k", "k", ONE))),
        )


class Places(Asking):
    def test_the_place_behind(self):
        for text, behind in [
            ("a", 1), ("a b", 1), ("a . b", 1), ("a / b", 1), ("a + b <= c", 3), ("1 / 2 / 3", 3), ("a(b)(c)", 4),
            ("2 a", 1), ("a 2", 1), ("(a) (b)", 3), ("a ) + b", 1), ("a , b", 1), ("a * b in c", 3), ("a : b", 1),
            ("sum(k in s, a) b", 8), ("- a sum", 2), ("1 (a)", 1), ("a = = b", 1), ("a(b) / 2", 4), ("(1) / 2", 3),
        ]:
            self.assertEqual(length(text), behind, text)

    def test_amid_the_words(self):
        held = words("row r: a + b * 2 <= - c.")
        term, behind = term_of(held, 3)
        self.assertEqual((term.told(), behind), (("plus", A, ("times", B, ("number", (2, 1)))), 8))
        term, behind = term_of(held, 5)
        self.assertEqual((term.told(), behind), (("times", B, ("number", (2, 1))), 8))
        term, behind = term_of(held, 9)
        self.assertEqual((term.told(), behind), (("negative", C), 11))
        for at in [0, 2, 4, 6, 8, 11, 12]:
            self.assert_refused(BadText, term_of, held, at)

    def test_told_as_a_pair(self):
        answer = term_of(words=["a"], at=0)
        self.assertIsInstance(answer, tuple)
        self.assertEqual(len(answer), 2)

    def test_the_words_stay(self):
        held = words("a + sum(k in s, b(k)) ) )")
        ahead = list(held)
        term = term_of(held, 0)[0]
        self.assertEqual(held, ahead)
        held.clear()
        self.assertEqual(term.told(), ("plus", A, ("sum", "k", "s", ("entry", "b", ("k",)))))


class NoTerms(Asking):
    def test_none_begins(self):
        for text in ["", ".", ",", ":", ")", "+", "*", "/", "=", "<=", ">=", "+ a", "* a", "/ 2", ") a"]:
            self.assert_refused(BadText, term_of, words(text), 0)
        for word in KEPT:
            self.assert_refused(BadText, term_of, [word], 0)
            self.assert_refused(BadText, term_of, [word, "a"], 0)

    def test_what_has_to_stand_behind_does_not(self):
        for text in [
            "a +", "a -", "a *", "-", "- -", "a + + b", "a * * b", "a * + b", "a + )", "a - .", "a * row", "a + in",
            "1 /", "1 / a", "1 / 0", "1 / - 2", "1 / (2)", "a + 0 / 0", "a * 2 /",
            "(", "()", "(a", "(a + b", "(a b)", "(a,b)", "((a)", "(a + b .", "a + (", "( + a)",
            "a(", "a()", "a(b", "a(b,", "a(b,)", "a(b c)", "a(b, c", "a(b, c, d)", "a(b, c,)", "a(2)", "a(-b)", "a((b))",
            "a(b + c)", "a(b(c))", "a + b(", "a(,b)",
            "sum", "sum a", "sum(", "sum()", "sum(k)", "sum(k in)", "sum(k in s)", "sum(k in s,", "sum(k in s,)",
            "sum(k in s, a", "sum(k in s, a .", "sum(k in s a)", "sum(k s, a)", "sum(2 in s, a)", "sum(k in 2, a)",
            "sum(k in s, a, b)", "sum(k in s, l in t, a)", "sum(k, l in s, a)", "sum(in in s, a)", "sum((k in s), a)",
        ]:
            self.assert_refused(BadText, term_of, words(text), 0)

    def test_kept_words_where_a_name_is_wanted(self):
        for word in KEPT:
            for text in [
                f"a({word})", f"a(b, {word})", f"sum({word} in s, a)", f"sum(k in {word}, a)", f"a + {word}",
                f"{word} + a", f"{word}(a)", f"({word})",
            ]:
                self.assert_refused(BadText, term_of, words(text), 0)


def chain(mark, depth):
    return f" {mark} ".join(["a"] * depth)


class Depth(Asking):
    def test_sixty_and_one_more(self):
        for mark in "+-*":
            term, behind = term_of(words(chain(mark, 60)), 0)
            self.assertEqual((term.depth(), behind), (60, 119))
            self.assert_refused(BadText, term_of, words(chain(mark, 61)), 0)
            # It is refused, not cut off where it would still be short enough.
            self.assert_refused(BadText, term_of, words(chain(mark, 61) + " . b"), 0)

    def test_by_minus_and_by_sums(self):
        self.assertEqual(term_of(words("-(" + chain("+", 59) + ")"), 0)[0].depth(), 60)
        self.assert_refused(BadText, term_of, words("-(" + chain("+", 60) + ")"), 0)
        self.assertEqual(term_of(words("sum(k in s, " + chain("*", 59) + ")"), 0)[0].depth(), 60)
        self.assert_refused(BadText, term_of, words("sum(k in s, " + chain("*", 60) + ")"), 0)
        self.assertEqual(term_of(words("a + (" + chain("-", 59) + ")"), 0)[0].depth(), 60)
        self.assert_refused(BadText, term_of, words("a + (" + chain("-", 60) + ")"), 0)
        self.assertEqual(term_of(words("(" + chain("-", 60) + ")"), 0)[0].depth(), 60)

    def test_wide_but_not_deep(self):
        wide = " + ".join(["(" + " * ".join(["a"] * 30) + ")"] * 30)
        self.assertEqual(term_of(words(wide), 0)[0].depth(), 59)

    def test_very_long_ones(self):
        for text in ["+".join(["a"] * 3000), "(" * 6000, "-" * 6000, "a*" * 2999, "sum(k in s," * 500, "a(" * 3000]:
            self.assert_refused(BadText, term_of, words(text), 0)


class Opened(Asking):
    def both(self, text, more):
        self.assertEqual(length(text), len(words(text)))
        self.assert_refused(BadText, term_of, words(more), 0)

    def test_brackets_of_terms(self):
        self.both("(" * 30 + "a" + ")" * 30, "(" * 31 + "a" + ")" * 31)

    def test_minus(self):
        self.both("-" * 30 + "a", "-" * 31 + "a")
        self.both("-" * 30 + "2", "-" * 31 + "2")
        self.both("(-" * 15 + "a" + ")" * 15, "-(-" * 1 + "(-" * 14 + "a" + ")" * 15)

    def test_brackets_of_keys(self):
        self.both("(" * 29 + "a(k)" + ")" * 29, "(" * 30 + "a(k)" + ")" * 30)
        self.both("-" * 29 + "a(k, l)", "-" * 30 + "a(k, l)")
        self.assertEqual(length("(" * 30 + "a" + ")" * 30), 61)

    def test_brackets_of_sums(self):
        self.both("(" * 29 + "sum(k in s, a)" + ")" * 29, "(" * 30 + "sum(k in s, a)" + ")" * 30)
        self.both("(" * 28 + "sum(k in s, a(k))" + ")" * 28, "(" * 29 + "sum(k in s, a(k))" + ")" * 29)
        self.both("sum(k in s, " + "(" * 29 + "a" + ")" * 30, "sum(k in s, " + "(" * 30 + "a" + ")" * 31)
        self.both("-" * 29 + "sum(k in s, a)", "-" * 30 + "sum(k in s, a)")

    def test_what_is_done_stands_open_no_more(self):
        deep = "(" * 30 + "a" + ")" * 30
        self.both(deep + " + " + deep, "-" + deep + " + " + deep)
        self.both(" + ".join(["-a"] * 40), " + ".join(["-a"] * 61))
        self.both("-" * 30 + "a * " + "-" * 30 + "b", "-" * 30 + "a * " + "-" * 31 + "b")
        self.both(" + ".join(["a(k)"] * 40), " + ".join(["a(k)"] * 61))
        # The first bracket is open while the second part is read, the minus ahead of its first part is not.
        self.both("(-a + " + "(" * 29 + "b" + ")" * 29 + ")", "(-a + " + "(" * 30 + "b" + ")" * 30 + ")")
        # A minus between two parts stands ahead of none alone.
        self.both("a - " + "(" * 30 + "b" + ")" * 30, "a - - " + "(" * 30 + "b" + ")" * 30)


class SumsWithin(Asking):
    def test_three_and_four(self):
        three = "sum(a in s, sum(b in s, sum(c in s, 1)))"
        self.assertEqual(told(three)[3][3][3], ONE)
        self.assert_refused(BadText, term_of, words(f"sum(d in s, {three})"), 0)
        self.assert_refused(BadText, term_of, words(f"sum(d in s, 2 * ({three} + 1))"), 0)
        self.assert_refused(BadText, term_of, words(f"a + sum(d in s, -{three})"), 0)

    def test_side_by_side_they_do_not_count(self):
        two = "sum(a in s, sum(b in s, 1))"
        self.assertEqual(
            told(f"sum(d in s, {two} + {two}) * {two}")[1][0], "sum",
        )
        self.assertEqual(length(" + ".join(["sum(a in s, 1)"] * 20)), 8 * 20 + 19)
