"""Promises 9, 10 and 11, and a term's entries, depth and sum."""

from planwell.errors import NotLinear
from planwell.parsing import term_of
from planwell.sums import plain, single
from planwell.terms import Entry, Minus, Negative, Number, Plus, Sum, Term, Times
from planwell.words import words
from tests.asking import Asking

A = Entry("a", ())
B = Entry("b", ("k",))
C = Entry("c", ("k", "m"))
TWO = Number((2, 1))
EACH = [TWO, A, Negative(A), Plus(A, B), Minus(A, B), Times(A, B), Sum("k", "ks", B)]


class ToyWorld:
    """The unknowns x and y(p), y(q), the tables t(p) = 2, t(q) = 3 and nil = 0; asked keeps what was asked for."""

    def __init__(self):
        self.asked = []

    def entry(self, name, keys):
        self.asked.append((name, keys))
        known = {
            ("x", ()): single(0), ("y", ("p",)): single(1), ("y", ("q",)): single(2),
            ("t", ("p",)): plain((2, 1)), ("t", ("q",)): plain((3, 1)), ("nil", ()): plain((0, 1)),
        }
        return known[(name, keys)]

    def members(self, name):
        self.asked.append(name)
        return {"ps": ("p", "q"), "sp": ("q", "p"), "none": ()}[name]


X = Entry("x", ())
YP = Entry("y", ("p",))
YK = Entry("y", ("k",))
TK = Entry("t", ("k",))
NIL = Entry("nil", ())


def laid(term):
    return term.laid(ToyWorld())


class Classes(Asking):
    def test_all_stand_under_term_with_the_same_methods(self):
        for term in EACH:
            self.assertIsInstance(term, Term)
            self.assertIsNot(type(term), Term)
        for name in ["told", "shown", "put", "entries", "depth", "laid"]:
            self.assertTrue(callable(getattr(Term, name)))

    def test_arguments_by_their_names(self):
        self.assertEqual(Number(fraction=(1, 2)).told(), ("number", (1, 2)))
        self.assertEqual(Entry(name="a", keys=("k",)).told(), ("entry", "a", ("k",)))
        self.assertEqual(Negative(one=A).told(), Negative(A).told())
        for kind in [Plus, Minus, Times]:
            self.assertEqual(kind(one=A, other=B).told(), kind(A, B).told())
        self.assertEqual(Sum(binder="k", group="ks", one=B).told(), Sum("k", "ks", B).told())
        self.assertEqual(B.put(binder="k", member="m").told(), ("entry", "b", ("m",)))
        self.assertEqual(A.laid(world=LaidAs(plain((1, 1)))), plain((1, 1)))


class LaidAs:
    def __init__(self, held):
        self.held = held

    def entry(self, name, keys):
        return self.held


class Told(Asking):
    def test_each_class(self):
        a = ("entry", "a", ())
        b = ("entry", "b", ("k",))
        self.assertEqual([term.told() for term in EACH], [
            ("number", (2, 1)), a, ("negative", a), ("plus", a, b), ("minus", a, b), ("times", a, b),
            ("sum", "k", "ks", b),
        ])
        self.assertEqual(C.told(), ("entry", "c", ("k", "m")))

    def test_numbers(self):
        for number in [(0, 1), (-3, 1), (5, 2), (-1, 3), (999999999, 999999998)]:
            self.assertEqual(Number(number).told(), ("number", number))

    def test_parts_are_told_likewise(self):
        self.assertEqual(
            Negative(Sum("d", "days", Times(TWO, Minus(A, Plus(B, C))))).told(),
            ("negative", ("sum", "d", "days", ("times", ("number", (2, 1)), (
                "minus", ("entry", "a", ()), ("plus", ("entry", "b", ("k",)), ("entry", "c", ("k", "m")))
            )))),
        )

    def test_told_by_tuples_alone(self):
        self.assertIsInstance(Sum("k", "ks", C).told()[3][2], tuple)
        # A list of keys that is changed behind it changes nothing.
        keys = ["k", "m"]
        term = Entry("c", keys)
        keys.append("z")
        self.assertEqual(term.told(), ("entry", "c", ("k", "m")))
        self.assertEqual(term.shown(), "c(k, m)")


class Shown(Asking):
    def test_each_class(self):
        self.assertEqual(
            [term.shown() for term in EACH],
            ["2", "a", "(- a)", "(a + b(k))", "(a - b(k))", "(a * b(k))", "sum(k in ks, b(k))"],
        )
        self.assertEqual(C.shown(), "c(k, m)")

    def test_numbers(self):
        for number, text in [
            ((0, 1), "0"), ((7, 1), "7"), ((5, 2), "5/2"), ((-3, 1), "(- 3)"), ((-1, 3), "(- 1/3)"),
            ((999999999, 1), "999999999"),
        ]:
            self.assertEqual(Number(number).shown(), text)

    def test_one_within_another(self):
        self.assertEqual(
            Negative(Sum("d", "days", Times(TWO, Minus(A, Plus(B, Negative(C)))))).shown(),
            "(- sum(d in days, (2 * (a - (b(k) + (- c(k, m)))))))",
        )
        self.assertEqual(Plus(Plus(A, B), C).shown(), "((a + b(k)) + c(k, m))")
        self.assertEqual(Minus(A, Number((-3, 2))).shown(), "(a - (- 3/2))")

    def test_what_is_shown_is_read_to_what_is_told_alike(self):
        terms = EACH + [C, Number((5, 2)), Number((0, 1))]
        for kind in [Plus, Minus, Times]:
            terms = terms + [kind(one, other) for one in EACH for other in EACH]
        terms = terms + [Negative(one) for one in terms] + [Sum("z", "zs", one) for one in terms]
        for term in terms:
            read = term_of(words(term.shown()), 0)
            self.assertEqual(read[0].told(), term.told())
            self.assertEqual(read[1], len(words(term.shown())))

    def test_a_number_below_nought_is_read_as_a_negative(self):
        term = term_of(words(Number((-3, 2)).shown()), 0)[0]
        self.assertEqual(term.told(), ("negative", ("number", (3, 2))))


class Put(Asking):
    def test_at_keys(self):
        self.assertEqual(B.put("k", "m").told(), ("entry", "b", ("m",)))
        self.assertEqual(C.put("k", "z").told(), ("entry", "c", ("z", "m")))
        self.assertEqual(C.put("m", "z").told(), ("entry", "c", ("k", "z")))
        self.assertEqual(Entry("c", ("k", "k")).put("k", "z").told(), ("entry", "c", ("z", "z")))
        self.assertEqual(C.put("other", "z").told(), C.told())

    def test_not_at_a_name_by_itself(self):
        self.assertEqual(A.put("a", "z").told(), A.told())
        self.assertEqual(Entry("k", ("k",)).put("k", "z").told(), ("entry", "k", ("z",)))

    def test_numbers_stay(self):
        self.assertEqual(Number((-5, 2)).put("k", "z").told(), ("number", (-5, 2)))

    def test_in_every_part(self):
        z = Entry("b", ("z",))
        self.assertEqual(Negative(B).put("k", "z").told(), Negative(z).told())
        for kind in [Plus, Minus, Times]:
            term = kind(B, Times(TWO, B)).put("k", "z")
            self.assertEqual(term.told(), kind(z, Times(TWO, z)).told())
            self.assertIs(type(term), kind)

    def test_within_another_sum(self):
        term = Sum("d", "k", Times(C, Entry("e", ("d",))))
        self.assertEqual(
            term.put("k", "z").told(),
            ("sum", "d", "k", ("times", ("entry", "c", ("z", "m")), ("entry", "e", ("d",)))),
        )

    def test_not_within_a_sum_of_the_same_binder(self):
        self.assertEqual(Sum("k", "ks", B).put("k", "z").told(), Sum("k", "ks", B).told())
        self.assertEqual(
            Plus(B, Sum("d", "ds", Sum("k", "ks", Plus(B, Sum("e", "es", B))))).put("k", "z").told(),
            Plus(Entry("b", ("z",)), Sum("d", "ds", Sum("k", "ks", Plus(B, Sum("e", "es", B))))).told(),
        )

    def test_the_term_itself_stays(self):
        for term in EACH + [C, Sum("d", "ds", B)]:
            ahead = (term.told(), term.shown(), term.entries(), term.depth())
            other = term.put("k", "z")
            self.assertIsNot(other, term)
            self.assertEqual((term.told(), term.shown(), term.entries(), term.depth()), ahead)


class Entries(Asking):
    def test_from_the_left_each_as_often_as_it_stands(self):
        self.assertEqual(TWO.entries(), [])
        self.assertEqual(A.entries(), [("a", ())])
        self.assertEqual(C.entries(), [("c", ("k", "m"))])
        for kind in [Plus, Minus, Times]:
            self.assertEqual(
                kind(kind(B, A), kind(TWO, kind(A, B))).entries(),
                [("b", ("k",)), ("a", ()), ("a", ()), ("b", ("k",))],
            )
        self.assertEqual(Negative(Sum("k", "ks", Plus(B, A))).entries(), [("b", ("k",)), ("a", ())])

    def test_the_list_is_the_askers_own(self):
        for term in EACH + [Negative(B)]:
            ahead = list(term.entries())
            term.entries().append(("z", ()))
            term.entries().clear()
            self.assertEqual(term.entries(), ahead)
            self.assertEqual(term.put("q", "z").entries(), ahead)


class Depth(Asking):
    def test_of_each_class(self):
        self.assertEqual([term.depth() for term in EACH], [1, 1, 2, 2, 2, 2, 2])
        self.assertEqual(C.depth(), 1)

    def test_one_more_than_the_deepest_part(self):
        for kind in [Plus, Minus, Times]:
            self.assertEqual(kind(Negative(Negative(A)), A).depth(), 4)
            self.assertEqual(kind(A, Negative(Negative(A))).depth(), 4)
        self.assertEqual(Sum("k", "ks", Sum("m", "ms", C)).depth(), 3)

    def test_made_by_hand_it_may_be_deeper_than_a_text_may_tell(self):
        term = A
        for step in range(99):
            term = [Negative(term), Plus(term, A), Sum("k", "ks", term)][step % 3]
        self.assertEqual(term.depth(), 100)
        self.assertEqual(len(term.entries()), 34)
        self.assertEqual(term.put("k", "z").told(), term.told())


class Laid(Asking):
    def test_numbers_and_entries(self):
        self.assertEqual(laid(Number((-5, 2))), ((-5, 2), ()))
        self.assertEqual(laid(X), ((0, 1), ((0, (1, 1)),)))
        self.assertEqual(laid(NIL), ((0, 1), ()))

    def test_marks(self):
        self.assertEqual(laid(Negative(Plus(X, TWO))), ((-2, 1), ((0, (-1, 1)),)))
        self.assertEqual(laid(Plus(YP, Plus(X, X))), ((0, 1), ((0, (2, 1)), (1, (1, 1)))))
        self.assertEqual(laid(Minus(X, Plus(YP, TWO))), ((-2, 1), ((0, (1, 1)), (1, (-1, 1)))))
        self.assertEqual(laid(Minus(X, X)), ((0, 1), ()))
        self.assertEqual(laid(Times(Number((1, 3)), Plus(X, TWO))), ((2, 3), ((0, (1, 3)),)))
        self.assertEqual(laid(Times(Plus(X, TWO), Number((1, 3)))), ((2, 3), ((0, (1, 3)),)))

    def test_sums(self):
        self.assertEqual(laid(Sum("k", "ps", Times(TK, YK))), ((0, 1), ((1, (2, 1)), (2, (3, 1)))))
        self.assertEqual(laid(Sum("k", "ps", TWO)), ((4, 1), ()))
        self.assertEqual(laid(Sum("k", "none", X)), ((0, 1), ()))
        # The inner binder of the same name is the inner sum's own.
        self.assertEqual(laid(Sum("k", "ps", Sum("k", "ps", TK))), ((10, 1), ()))
        both = Sum("k", "ps", Sum("j", "ps", Times(Entry("t", ("j",)), YK)))
        self.assertEqual(laid(both), ((0, 1), ((1, (5, 1)), (2, (5, 1)))))

    def test_members_are_put_in_order(self):
        for group, order in [("ps", ["p", "q"]), ("sp", ["q", "p"])]:
            world = ToyWorld()
            Sum("k", group, Plus(TK, YK)).laid(world)
            self.assertEqual(
                world.asked, [group] + [(name, (key,)) for key in order for name in ["t", "y"]]
            )

    def test_not_linear_where_both_sides_have_pairs(self):
        for term in [
            Times(X, X), Times(X, YP), Times(Plus(X, TWO), Minus(YP, TWO)), Times(Times(TWO, X), X),
            Plus(TWO, Negative(Times(X, YP))), Sum("k", "ps", Times(X, YK)), Times(NIL, Times(X, X)),
            Times(Sum("k", "ps", YK), X),
        ]:
            self.assert_refused(NotLinear, laid, term)

    def test_not_where_the_pairs_are_gone(self):
        for term in [
            Times(Minus(X, X), X), Times(Times(NIL, X), X), Times(X, Times(X, NIL)), Times(X, Times(Number((0, 1)), X)),
            Times(Sum("k", "none", X), X), Times(X, Plus(Negative(YP), YP)),
        ]:
            self.assertEqual(laid(term), ((0, 1), ()))

    def test_the_term_stays(self):
        term = Sum("k", "ps", Times(TK, YK))
        ahead = term.told()
        self.assertEqual(laid(term), laid(term))
        self.assertEqual(term.told(), ahead)
