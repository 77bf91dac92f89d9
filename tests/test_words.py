"""Promise 5: how a text is parted into words, and what can't be parted so."""

import unittest

from planwell.errors import BadText
from planwell.words import words

MARKS = [".", ",", ":", "(", ")", "+", "-", "*", "/", "=", "<=", ">="]
OWN_WORDS = "set table unknown over whole from to row each in sum least most".split()
LETTERS = "abcdefghijklmnopqrstuvwxyz"


class Parted(unittest.TestCase):
    def test_an_ordinary_text(self):
        self.assertEqual(
            words("table need over things, days : bread mon 3, bread tue 5/2."),
            ["table", "need", "over", "things", ",", "days", ":", "bread", "mon", "3", ",", "bread", "tue", "5", "/",
             "2", "."],
        )
        self.assertEqual(
            words("row flour each d in days:\n  need(d) <= (2 * bake(d))."),
            ["row", "flour", "each", "d", "in", "days", ":", "need", "(", "d", ")", "<=", "(", "2", "*", "bake", "(",
             "d", ")", ")", "."],
        )

    def test_nothing(self):
        for text in ["", " ", "\n", " \n \n\n  "]:
            self.assertEqual(words(text), [])

    def test_every_mark(self):
        for mark in MARKS:
            self.assertEqual(words(mark), [mark])
            self.assertEqual(words("a" + mark + "1"), ["a", mark, "1"])
            self.assertEqual(words("1 " + mark + "\na"), ["1", mark, "a"])
        self.assertEqual(words(" ".join(MARKS)), MARKS)
        self.assertEqual(words("".join(MARKS)), MARKS)

    def test_marks_side_by_side(self):
        self.assertEqual(words("(()).."), ["(", "(", ")", ")", ".", "."])
        self.assertEqual(words("<=="), ["<=", "="])
        self.assertEqual(words("=>="), ["=", ">="])
        self.assertEqual(words("<=>="), ["<=", ">="])
        self.assertEqual(words("<=-3"), ["<=", "-", "3"])
        self.assertEqual(words("--3/-4"), ["-", "-", "3", "/", "-", "4"])

    def test_letters_and_figures_side_by_side(self):
        self.assertEqual(words("bake2"), ["bake", "2"])
        self.assertEqual(words("2bake"), ["2", "bake"])
        self.assertEqual(words("a1b22c"), ["a", "1", "b", "22", "c"])
        self.assertEqual(words("a0b0"), ["a", "0", "b", "0"])
        self.assertEqual(words("abcdefgh123456789abcdefgh"), ["abcdefgh", "123456789", "abcdefgh"])

    def test_as_many_letters_as_there_are(self):
        self.assertEqual(words("setrow"), ["setrow"])
        self.assertEqual(words("set row"), ["set", "row"])
        self.assertEqual(words("sum(insets"), ["sum", "(", "insets"])

    def test_every_letter_and_every_figure(self):
        for letter in LETTERS:
            self.assertEqual(words(letter), [letter])
        for figure in "0123456789":
            self.assertEqual(words(figure), [figure])
            self.assertEqual(words("1" + figure), ["1" + figure])

    def test_blanks_and_line_ends_part_and_mean_nothing_else(self):
        for gap in [" ", "\n", "  ", " \n", "\n\n ", " " * 50]:
            self.assertEqual(words(gap.join(["a", "b", "1", "2", "<=", "."])), ["a", "b", "1", "2", "<=", "."])
            self.assertEqual(words(gap + "a" + gap), ["a"])

    def test_words_of_the_language_itself(self):
        self.assertEqual(words(" ".join(OWN_WORDS)), OWN_WORDS)

    def test_names_of_eight_letters(self):
        for text in ["abcdefgh", "zzzzzzzz"]:
            self.assertEqual(words(text), [text])

    def test_numbers_of_nine_figures_and_nought(self):
        for text in ["0", "7", "10", "100000000", "999999999"]:
            self.assertEqual(words(text), [text])
        self.assertEqual(words("0 0"), ["0", "0"])
        self.assertEqual(words("0/0"), ["0", "/", "0"])

    def test_six_thousand_signs(self):
        self.assertEqual(words("a " * 3000), ["a"] * 3000)
        self.assertEqual(words("." * 6000), ["."] * 6000)
        self.assertEqual(words(" \n" * 3000), [])


class Refused(unittest.TestCase):
    def assert_refused(self, thing):
        self.assertRaises(BadText, words, thing)

    def test_one_sign_more(self):
        for text in ["." * 6001, " " * 6001, "\n" * 6001, "a " * 3000 + " "]:
            self.assert_refused(text)

    def test_names_of_nine_letters(self):
        for text in ["abcdefghi", "a abcdefghi a", "1abcdefghi1", "a" * 6000]:
            self.assert_refused(text)

    def test_numbers_of_ten_figures(self):
        for text in ["1234567890", "a1234567890a", "3 / 1000000000", "0123456789", "9" * 6000]:
            self.assert_refused(text)

    def test_a_nought_ahead(self):
        for text in ["00", "01", "007", "a01", "1/02", "000000000", "-01"]:
            self.assert_refused(text)

    def test_less_and_greater_alone(self):
        for text in ["<", ">", "a < b", "a > b", "< =", "> =", "<\n=", "=<", "=>", "<>", "<<=", ">>=", "a<", "<=<"]:
            self.assert_refused(text)

    def test_every_other_sign_to_the_tilde(self):
        known = LETTERS + "0123456789" + " .,:()+-*/=<>"
        for number in range(ord(" "), ord("~") + 1):
            if chr(number) not in known:
                self.assert_refused(chr(number))
                self.assert_refused("set a: b" + chr(number) + ".")
        self.assert_refused("%")
        self.assert_refused("A")
        self.assert_refused("Set")
        self.assert_refused("bAke")

    def test_signs_beyond_the_blank_and_the_tilde(self):
        signs = "\t\r\0\v\f\x1b\x1c\x1f\x7f\x85\xa0\xb2\xb5\xe9\u0131\u017f\u0661\u2028\u3000\uff11\uff41\U0001d7d8\ud800"
        for one in signs:
            self.assert_refused(one)
            self.assert_refused("a" + one + "b")
            self.assert_refused("1" + one)
        self.assert_refused("a\r\nb")

    def test_things_that_are_no_texts(self):
        for thing in [None, True, False, 0, 7, 1.5, b"set", b"", [], ["set"], (), ("a", "b"), {}, {"a": 1}, {"a"},
                      object(), str, words, range(3)]:
            self.assert_refused(thing)


class TheAskersOwn(unittest.TestCase):
    def test_the_list_may_be_changed(self):
        text = "set a: b."
        told = words(text)
        self.assertIs(type(told), list)
        self.assertEqual([type(word) for word in told], [str] * 5)
        told.append("more")
        told[0] = "other"
        self.assertEqual(words(text), ["set", "a", ":", "b", "."])
        self.assertEqual(words(""), [])
        words("").append("more")
        self.assertEqual(words(""), [])

    def test_what_is_asked_later_changes_nothing_told(self):
        told = words("a b")
        words("c d")
        self.assertRaises(BadText, words, "c d A")
        self.assertEqual(told, ["a", "b"])


if __name__ == "__main__":
    unittest.main()
