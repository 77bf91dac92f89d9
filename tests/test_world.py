"""Promise 13, of one statement behind those learnt; members, entries, unknowns and look."""

from planwell.errors import BadEnds, BadName, BadTable, TooMany
from planwell.parsing import term_of
from planwell.reading import read
from planwell.words import words
from planwell.world import World
from tests.asking import Asking

HEAD = """set days: mon, tue. set ends: tue, sun. set one: mon. table k: 3. table t over days: mon 1, tue 2/4.
table m over days, ends: mon tue 1, mon sun 2, tue tue 3, tue sun 4. unknown x. unknown y over days from 0.
unknown z over ends, days whole from 0 to 100. row r: x >= 0."""


def world_of(text):
    world = World()
    for statement in read(text):
        world.learn(statement)
    return world


def state(world):
    return (
        world.unknowns(), [world.members(name) for name in ["days", "ends", "one"]], world.entry("k", ()),
        world.entry("t", ("tue",)), world.entry("z", ("sun", "mon")),
    )


def term(text):
    held = words(text)
    made, behind = term_of(held, 0)
    assert behind == len(held), text
    return made


class Learnt(Asking):
    def test_members(self):
        world = world_of(HEAD)
        self.assertEqual(world.members("days"), ("mon", "tue"))
        self.assertEqual(world.members("ends"), ("tue", "sun"))
        self.assertEqual(world.members(name="one"), ("mon",))
        for name in ["mon", "x", "t", "r", "other", ""]:
            self.assert_refused(BadName, world.members, name)

    def test_entries_of_tables(self):
        world = world_of(HEAD)
        self.assertEqual(world.entry("k", ()), ((3, 1), ()))
        self.assertEqual(world.entry("t", ("tue",)), ((1, 2), ()))
        self.assertEqual(world.entry(name="m", keys=("tue", "sun")), ((4, 1), ()))

    def test_entries_of_unknowns(self):
        world = world_of(HEAD)
        numbers = [("x", ()), ("y", ("mon",)), ("y", ("tue",))]
        numbers = numbers + [("z", (end, day)) for end in ["tue", "sun"] for day in ["mon", "tue"]]
        for number, (name, keys) in enumerate(numbers):
            self.assertEqual(world.entry(name, keys), ((0, 1), ((number, (1, 1)),)))

    def test_entries_that_are_none(self):
        world = world_of(HEAD)
        for name, keys in [
            ("other", ()), ("days", ()), ("mon", ()), ("r", ()), ("k", ("mon",)), ("t", ()), ("t", ("sun",)),
            ("t", ("mon", "tue")), ("m", ("mon",)), ("m", ("mon", "mon")), ("m", ("tue", "mon")), ("x", ("mon",)),
            ("y", ()), ("y", ("d",)), ("z", ("mon", "tue")),
        ]:
            self.assert_refused(BadName, world.entry, name, keys)

    def test_unknowns(self):
        self.assertEqual(World().unknowns(), [])
        world = world_of(HEAD)
        whole = (True, (0, 1), (100, 1))
        self.assertEqual(world.unknowns(), [
            ("x", False, None, None), ("y(mon)", False, (0, 1), None), ("y(tue)", False, (0, 1), None),
            ("z(tue, mon)",) + whole, ("z(tue, tue)",) + whole, ("z(sun, mon)",) + whole, ("z(sun, tue)",) + whole,
        ])

    def test_unknowns_are_the_askers_own(self):
        world = world_of(HEAD)
        told = world.unknowns()
        ahead = list(told)
        told.clear()
        self.assertEqual(world.unknowns(), ahead)
        told = world.unknowns()
        world.learn(read("unknown more.")[0])
        self.assertEqual(told, ahead)
        self.assertEqual(world.unknowns(), ahead + [("more", False, None, None)])

    def test_learn_tells_nothing(self):
        world = World()
        for statement in read(HEAD + "least x."):
            self.assertIsNone(world.learn(statement))

    def test_one_name_as_a_member_of_several_sets(self):
        world = world_of("set a: m, n. set b: n, m, o. set c: m. unknown x over a, b.")
        self.assertEqual(len(world.unknowns()), 6)

    def test_goals_and_rows_are_not_counted(self):
        world = world_of(HEAD)
        for statement in read("least x. most x. row big each d in days: x * x = x * y(d)."):
            self.assertIsNone(world.learn(statement))
        for number in range(50):
            name = "r" + "abcdefghij"[number // 10] + "abcdefghij"[number % 10]
            self.assertIsNone(world.learn(read(f"row {name}: x = 1.")[0]))

    def test_two_worlds_beside_one_another(self):
        one = World()
        other = World()
        one.learn(read("set a: b.")[0])
        self.assert_refused(BadName, other.members, "a")
        other.learn(read("set b: a.")[0])
        self.assertEqual((one.members("a"), other.members("b")), (("b",), ("a",)))


class Refused(Asking):
    def refused(self, kind, text):
        world = world_of(HEAD)
        ahead = state(world)
        statement = read(text)[0]
        self.assert_refused(kind, world.learn, statement)
        # What is refused changes nothing: its heading is still free, and what is right is still learnt.
        self.assertEqual(state(world), ahead)
        self.assert_refused(kind, world.learn, statement)
        world.learn(read("set free: p, q, d, e.")[0])
        if statement[0] != "goal" and statement[1] in ["f", "g"]:
            world.learn(read(f"table {statement[1]}: 1.")[0])
            self.assertEqual(world.entry(statement[1], ()), ((1, 1), ()))

    def test_headings_told_ahead(self):
        for name in ["days", "k", "t", "x", "y", "r", "mon", "sun"]:
            for text in ["set {}: f.", "table {}: 1.", "unknown {}.", "row {}: x = 1."]:
                self.refused(BadName, text.replace("{}", name))

    def test_members(self):
        for name in ["days", "k", "t", "x", "y", "r", "f"]:
            self.refused(BadName, f"set f: {name}.")
            self.refused(BadName, f"set f: g, {name}.")
        self.refused(BadName, "set f: g, g.")
        self.refused(BadName, "set f: g, h, i, g.")
        self.refused(BadName, "set f: mon, mon.")
        self.refused(BadName, "set f: mon, days.")

    def test_binders(self):
        for name in ["days", "k", "t", "x", "y", "r", "mon", "sun", "f"]:
            for text in [
                "row f each {} in days: x = 1.", "row f each d in days, {} in days: x = 1.",
                "row f: sum({} in days, 1) = 1.", "row f: 1 = sum({} in days, 1).", "row f: x = 2 * -sum({} in days, 1).",
                "row f: sum(d in days, sum({} in days, 1)) = 1.",
            ]:
                self.refused(BadName, text.replace("{}", name))
            if name != "f":
                self.refused(BadName, f"least sum({name} in days, 1).")
                self.refused(BadName, f"most x + sum(d in days, sum({name} in days, 1)).")

    def test_a_goal_has_no_heading(self):
        world_of(HEAD).learn(read("least sum(f in days, y(f)).")[0])

    def test_binders_round_binders(self):
        for text in [
            "row f each d in days, d in days: x = 1.", "row f each d in days, d in ends: x = 1.",
            "row f each d in days: sum(d in days, 1) = 1.", "row f each d in days: 1 = sum(d in ends, 1).",
            "row f each e in days, d in days: sum(d in days, 1) = 1.", "row f: sum(d in days, sum(d in days, 1)) = 1.",
            "row f: sum(d in days, sum(e in days, sum(d in days, 1))) = 1.", "least sum(d in days, -sum(d in ends, 1)).",
        ]:
            self.refused(BadName, text)

    def test_the_same_binder_side_by_side(self):
        world = world_of(HEAD)
        for text in [
            "row f each d in days: x = sum(e in days, 1) + sum(e in ends, 1).",
            "row g: sum(d in days, 1) = sum(d in ends, 1).", "row h each d in days: y(d) = 1.",
            "least sum(d in days, 1) * sum(d in days, 2).",
        ]:
            self.assertIsNone(world.learn(read(text)[0]))

    def test_names_that_are_no_sets(self):
        for name in ["other", "mon", "k", "x", "r", "f", "d"]:
            for text in [
                "table f over {}: mon 1.", "table f over days, {}: mon mon 1.", "table f over {}, days: mon mon 1.",
                "unknown f over {}.", "unknown f over days, {}.", "unknown f over {}, days.",
                "row f each d in {}: x = 1.", "row f each d in days, e in {}: x = 1.", "row f: sum(d in {}, 1) = 1.",
                "row f: 1 = sum(d in {}, 1).", "least sum(d in {}, 1).", "least sum(d in days, sum(e in {}, 1)).",
            ]:
                self.refused(BadName, text.replace("{}", name))

    def test_keys_of_tables(self):
        self.refused(BadName, "table f over days: mon 1, sun 2.")
        self.refused(BadName, "table f over days: other 1, mon 1, tue 1.")
        self.refused(BadName, "table f over one, ends: mon tue 1, mon mon 2.")
        self.refused(BadName, "table f over one, ends: mon tue 1, sun sun 2.")
        self.refused(BadName, "table f over ends, one: mon tue 1, mon sun 2.")

    def test_tables_with_too_many_and_too_few_entries(self):
        self.refused(BadTable, "table f over days: mon 1.")
        self.refused(BadTable, "table f over days: mon 1, tue 2, mon 1.")
        self.refused(BadTable, "table f over days: mon 1, mon 1.")
        self.refused(BadTable, "table f over days, days: mon tue 1, tue mon 1, tue tue 1.")
        self.refused(BadTable, "table f over days, one: mon mon 1, tue mon 1, mon mon 1.")
        world = world_of(HEAD)
        world.learn(read("table f over days: tue 2, mon 1.")[0])
        self.assertEqual(world.entry("f", ("tue",)), ((2, 1), ()))
        world.learn(read("table g over days, days: mon tue 1, tue mon 2, tue tue 3, mon mon 4.")[0])
        self.assertEqual(world.entry("g", ("tue", "mon")), ((2, 1), ()))

    def test_ends(self):
        for ends in [
            "from 1 to 0", "from 1/2 to 1/3", "from -1 to -2", "whole", "whole from 0", "whole to 0",
            "whole from 1 to 0", "whole from 1/2 to 3", "whole from 0 to 7/2", "whole from 1/2 to 1/2",
            "whole from 0 to 101", "whole from -51 to 50", "whole from 999999998 to 999999999/2",
        ]:
            self.refused(BadEnds, f"unknown f {ends}.")
            self.refused(BadEnds, f"unknown f over days {ends}.")

    def test_ends_that_may_be(self):
        world = world_of(HEAD)
        for place, ends in enumerate([
            "", "from 3", "to 3", "from 3 to 3", "from -1/2 to -1/3", "from 0 to 999", "whole from 0 to 100",
            "whole from -50 to 50", "whole from 7 to 7", "whole from 4/2 to 6/2", "whole from 999999899 to 999999999",
        ]):
            name = "u" + "abcdefghijklmnop"[place]
            self.assertIsNone(world.learn(read(f"unknown {name} {ends}.")[0]))

    def test_too_many_unknowns(self):
        world = world_of("set s: a, b, c, d, e, f. unknown x over s, s. unknown y. unknown z. unknown v.")
        self.assertEqual(len(world.unknowns()), 39)
        self.assert_refused(TooMany, world.learn, read("unknown w over s.")[0])
        self.assertEqual(len(world.unknowns()), 39)
        world.learn(read("unknown w.")[0])
        self.assertEqual(len(world.unknowns()), 40)
        self.assert_refused(TooMany, world.learn, read("unknown u.")[0])
        self.assert_refused(BadName, world.entry, "u", ())
        world.learn(read("table u: 1.")[0])
        self.assertEqual(len(world.unknowns()), 40)

    def test_entries_in_terms(self):
        for entry in [
            "other", "other(mon)", "f", "days", "mon", "r", "r(mon)", "k(mon)", "t", "t(mon, tue)", "t(sun)", "t(other)",
            "t(k)", "t(days)", "m(mon)", "m(mon, mon)", "m(sun, tue)", "x(mon)", "y", "y(sun)", "y(e)", "z(mon, tue)",
            "z(tue)", "d", "days(mon)",
        ]:
            for text in ["row f: {} = 1.", "row f: 1 = {}.", "row f: x = 2 * -({} + 1).", "least {}.", "most x - {}.",
                         "row f: sum(d in ends, 1) = {}.", "row f each d in days: sum(q in days, {}) = 1."]:
                self.refused(BadName, text.replace("{}", entry))

    def test_binders_as_keys(self):
        for text in [
            "row f each d in days: y(d) = t(d).", "row f each d in one: y(d) = t(d).",
            "row f each d in days, e in ends: m(d, e) = z(e, d).", "row f: sum(d in one, y(d)) = x.",
            "row f each d in one: sum(e in ends, z(e, d)) = m(d, tue).", "least sum(d in days, y(d)).",
            "row f each d in days: sum(e in one, y(d) + y(e)) = 1.",
        ]:
            self.assertIsNone(world_of(HEAD).learn(read(text)[0]))
        for text in [
            "row f each d in ends: y(d) = 1.", "row f each d in ends: 1 = y(d).", "row f: sum(d in ends, y(d)) = 1.",
            "row f each d in days, e in ends: m(e, d) = 1.", "row f each d in days: m(d, d) = 1.",
            "least sum(d in ends, t(d)).", "row f each d in days: x = d.", "row f each d in days: x = d(mon).",
            "row f: sum(d in days, y(d)) = y(d).", "row f: sum(d in days, 1) + y(d) = 1.", "least sum(d in days, y(e)).",
        ]:
            self.refused(BadName, text)

    def test_the_first_of_two_faults(self):
        for kind, text in [
            (BadName, "table x over days: mon 1."), (BadName, "table x over days: mon 1, mon 2."),
            (BadName, "table f over days: mon 1, mon 2, sun 3."), (BadName, "table f over other: mon 1, mon 1."),
            (BadName, "table f over days: sun 1."), (BadName, "unknown x from 1 to 0."),
            (BadName, "unknown f over other whole."), (BadName, "unknown f over days, other from 1 to 0."),
            (BadName, "unknown mon whole."),
        ]:
            self.refused(kind, text)
        full = world_of("set s: a, b, c, d, e, f. set q: g, h, i, j. unknown x over s, s. unknown y over q.")
        self.assertEqual(len(full.unknowns()), 40)
        self.assert_refused(BadEnds, full.learn, read("unknown w from 1 to 0.")[0])
        self.assert_refused(BadEnds, full.learn, read("unknown w whole.")[0])
        self.assert_refused(BadName, full.learn, read("unknown x whole.")[0])
        self.assert_refused(BadName, full.learn, read("unknown w over other.")[0])
        self.assert_refused(TooMany, full.learn, read("unknown w.")[0])


class Look(Asking):
    def test_what_is_right(self):
        world = world_of(HEAD)
        for text, binders in [
            ("1", ()), ("x + k * t(mon)", ()), ("y(d)", (("d", "days"),)), ("m(d, e)", (("d", "one"), ("e", "ends"))),
            ("sum(d in days, y(d) + sum(e in ends, z(e, d)))", ()), ("sum(e in ends, z(e, d))", (("d", "days"),)),
            ("x * x", ()), ("x", (("d", "days"),)),
        ]:
            self.assertIsNone(world.look(term(text), binders))
        self.assertIsNone(world.look(term=term("x"), binders=()))

    def test_what_is_wrong(self):
        world = world_of(HEAD)
        ahead = state(world)
        for text, binders in [
            ("other", ()), ("y(d)", ()), ("y(d)", (("d", "ends"),)), ("y(e)", (("d", "days"),)), ("t", ()),
            ("1", (("d", "other"),)), ("1", (("mon", "days"),)), ("1", (("r", "days"),)), ("1", (("x", "days"),)),
            ("1", (("d", "days"), ("d", "days"))), ("sum(d in days, 1)", (("d", "days"),)), ("sum(d in other, 1)", ()),
            ("sum(mon in days, 1)", ()), ("sum(k in days, 1)", ()), ("y(sun)", (("d", "days"),)),
            ("m(d, e)", (("d", "ends"), ("e", "days"))),
        ]:
            self.assert_refused(BadName, world.look, term(text), binders)
        self.assertEqual(state(world), ahead)

    def test_binders_are_not_kept(self):
        world = world_of(HEAD)
        world.look(term("y(d)"), (("d", "days"),))
        self.assert_refused(BadName, world.look, term("y(d)"), ())
        world.learn(read("set d: e.")[0])
        self.assertEqual(world.members("d"), ("e",))
