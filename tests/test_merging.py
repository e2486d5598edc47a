"""[100], [101] merging, with [5], [6], [16], [40]."""

import unittest

from leancatalog.catalogs import Catalog
from leancatalog.changes import done, run
from leancatalog.errors import CatalogError, TooMany
from leancatalog.falls import falls
from leancatalog.merging import merged
from leancatalog.plans import Plan
from leancatalog.reading import faults
from leancatalog.rights import Rights
from leancatalog.words import space_of
from tests.branches import Merge, branch_of
from tests.build import shop
from tests.drawn import Drawing, is_valid, where_of
from tests.pairs import function, view
from tests.stub import order_of

BASE = [
    ("create", "schema", "app", ()), ("create", "schema", "old", ()), ("path", ("app",)), ("create", "table", "t", ()),
    ("create", "column", ("t", "a"), ("int", None)), ("create", "column", ("t", "b"), ("int", None)), view("v", 1, "t", "a"),
    ("create", "sequence", "q", (("t", "b"),)), ("create", "default", ("t", "b"), (("next", "q"),)),
    ("create", "index", "i", ("t", (("column", "a"),))), ("create", "check", ("t", "c"), (("less", ("column", "a"), ("int", 1)),)),
    function("f", ("int",)), function("g", (), ("f", ("int",))), ("create", "domain", "d", ("int", None)),
    ("create", "sequence", "free", (None,)),
]
APP, OLD = ("schema", "app"), ("schema", "old")
T, A, B, V = ("table", "app", "t"), ("column", "app", "t", "a"), ("column", "app", "t", "b"), ("view", "app", "v")
F, G, D, Q, I = ("function", "app", "f"), ("function", "app", "g"), ("domain", "app", "d"), ("sequence", "app", "q"), ("index", "app", "i")
C, START, FREE = ("check", "app", "t", "c"), ("default", "app", "t", "b"), ("sequence", "app", "free")


def number(k):
    return ("replace", "function", "f", (("int",), "int", ("int", k)), "cascade")


class Merging(unittest.TestCase):
    def setUp(self):
        self.base = run(Catalog(), BASE)
        self.followed = branch_of(self.base)

    def both(self, one, other):
        """What merged returns, the same whichever comes first, held against the words of [100]."""
        sides = [self.followed, self.followed.run(*one), self.followed.run(*other)]
        return self.check(*sides)

    def check(self, base, one, other):
        told = self.outcome(base.catalog, one.catalog, other.catalog)
        self.assertEqual(told, self.outcome(base.catalog, other.catalog, one.catalog))
        expected = Merge(base, one, other).told
        self.assertEqual(told[0], expected[0])
        if told[0] == "clashes":
            self.assertEqual(told[1], sorted(expected[1], key=lambda clash: [order_of(part) for part in clash]))
            self.assertGreater(len(told[1]), 0)
            return told
        catalog = told[1]
        self.assertTrue(is_valid(catalog))
        self.assertEqual(faults({item: (catalog[item], catalog.needs(item)) for item in catalog.addresses()}), [])
        self.assertEqual({item: (catalog[item], set(catalog.needs(item))) for item in catalog.addresses()}, expected[1])
        self.assertEqual(catalog.path, expected[2])
        return told

    def outcome(self, base, one, other):
        before = [(side.addresses(), side.path) for side in (base, one, other)]
        told = merged(base, one, other)
        self.assertEqual([(side.addresses(), side.path) for side in (base, one, other)], before)
        return told

    def clashes(self, one, other, *clashes):
        self.assertEqual(self.both(one, other), ("clashes", list(clashes)))

    def merged(self, one, other, *statements):
        """The merge, which is what the statements make of the base."""
        told = self.both(one, other)
        self.assertEqual(told[0], "merged")
        self.assertEqual(told[1], run(self.base, list(statements)))
        return told[1]


class OneBranch(Merging):
    def test_the_laws(self):
        for statements in [[], [number(3)], [("drop", "table", "t", "cascade")], [("rename", "schema", "app", "new"), ("path", ("new",))],
                           [("move", "table", "t", "old")], [view("w", 2, "v", "a"), ("create", "table", ("old", "x"), ())]]:
            self.merged(statements, [], *statements)
            self.merged(statements, statements, *statements)
            self.merged([], [], *[])
            one = run(self.base, statements)
            self.assertEqual(merged(self.base, one, one), ("merged", one))

    def test_catalogs_without_items(self):
        empty = Catalog()
        self.assertEqual(merged(empty, empty, empty), ("merged", empty))
        self.assertEqual(merged(empty, self.base, empty), ("merged", self.base))
        self.assertEqual(merged(empty, self.base, run(Catalog(), BASE)), ("merged", self.base))
        gone = run(self.base, [("drop", "schema", "app", "cascade"), ("drop", "schema", "old", "cascade")])
        self.assertEqual(merged(self.base, gone, gone), ("merged", gone))


class Kept(Merging):
    """Items of the base that are in both branches."""

    def test_places_and_texts_by_one_branch_each(self):
        self.merged([("rename", "function", "f", "x")], [number(3)], ("rename", "function", "f", "x"),
                    ("replace", "function", "x", (("int",), "int", ("int", 3)), "alone"))
        self.merged([("rename", "table", "t", "x")], [("rename", "column", ("t", "a"), "z"), view("w", 2, "v", "a")],
                    ("rename", "table", "t", "x"), ("rename", "column", ("x", "a"), "z"), view("w", 2, "v", "a"))
        self.merged([("move", "table", "t", "old")], [("rename", "schema", "old", "new"), ("rename", "index", "i", "j")],
                    ("move", "table", "t", "old"), ("rename", "schema", "old", "new"), ("rename", "index", ("new", "i"), "j"))

    def test_the_same_by_both(self):
        for statement in [("rename", "function", "f", "x"), number(3), ("move", "table", "t", "old"), ("rename", "schema", "app", "new"),
                          ("replace", "sequence", "q", (None,), "alone"), ("path", ("old",)), ("drop", "view", "v", "alone")]:
            self.merged([statement], [statement], statement)

    def test_places_otherwise(self):
        self.clashes([("rename", "function", "f", "x")], [("rename", "function", "f", "y")], ("place", F))
        self.clashes([("rename", "function", "f", "x")], [("move", "function", "f", "old")], ("place", F))
        self.clashes([("rename", "schema", "app", "x")], [("rename", "schema", "app", "y")], ("place", APP))
        self.clashes([("rename", "column", ("t", "a"), "x")], [("rename", "column", ("t", "a"), "y")], ("place", A))
        self.clashes([("replace", "sequence", "q", (None,), "alone")], [("rename", "sequence", "q", "r")], ("place", Q))

    def test_texts_otherwise(self):
        self.clashes([number(3)], [number(4)], ("text", F))
        rule = ("replace", "column", ("t", "a"), ("int", ("add", ("column", "b"), ("int", 1))), "cascade")
        self.clashes([rule], [("replace", "column", ("t", "a"), ("d", None), "cascade")], ("text", A))

    def test_made_anew_otherwise(self):
        text = ("replace", "column", ("t", "a"), ("text", None), "cascade")
        self.assertEqual(self.both([text], [text])[0], "merged")
        self.assertEqual(self.both([text], [view("w", 2, "v", "a")]), ("clashes", [
            ("need", ("view", "app", "w"), (V, "a", "int", "hard")),
        ]))

    def test_the_paths(self):
        self.merged([("path", ("a",))], [], ("path", ("a",)))
        self.merged([("path", ("a",))], [("path", ("a",))], ("path", ("a",)))
        self.clashes([("path", ("a",))], [("path", ("b",))], ("path",))
        self.clashes([number(1), ("path", ("a",))], [number(2), ("path", ())], ("path",), ("text", F))

    def test_what_a_definition_names_renamed_or_moved_in_the_other_branch(self):
        ruled = ("replace", "column", ("t", "a"), ("int", ("add", ("column", "b"), ("int", 1))), "cascade")
        self.merged([("rename", "column", ("t", "b"), "z")], [ruled], ("rename", "column", ("t", "b"), "z"),
                    ("replace", "column", ("t", "a"), ("int", ("add", ("column", "z"), ("int", 1))), "cascade"))
        call = ("replace", "function", "g", ((), "int", ("call", "f", (("int", 9),))), "alone")
        self.merged([("move", "function", "f", "old"), ("rename", "function", ("old", "f"), "x")], [call], call,
                    ("move", "function", "f", "old"), ("rename", "function", ("old", "f"), "x"))
        self.merged([("rename", "table", "t", "x"), ("rename", "column", ("x", "a"), "y")],
                    [("replace", "view", "v", (3, ("n",), (((("o", "t"),), ((("of", "o", "a"), ("int", 4)),), (("of", "o", "b"),)),)), "cascade")],
                    ("replace", "view", "v", (3, ("n",), (((("o", "t"),), ((("of", "o", "a"), ("int", 4)),), (("of", "o", "b"),)),)), "cascade"),
                    ("rename", "table", "t", "x"), ("rename", "column", ("x", "a"), "y"))
        self.merged([("rename", "column", ("t", "b"), "z"), ("rename", "sequence", "q", "r")],
                    [("replace", "default", ("t", "b"), (("add", ("next", "q"), ("next", "free")),), "alone")],
                    ("replace", "default", ("t", "b"), (("add", ("next", "q"), ("next", "free")),), "alone"),
                    ("rename", "column", ("t", "b"), "z"), ("rename", "sequence", "q", "r"))

    def test_names_exchanged_in_one_branch(self):
        exchange = [("rename", "column", ("t", "a"), "x"), ("rename", "column", ("t", "b"), "a"), ("rename", "column", ("t", "x"), "b")]
        more = ("create", "check", ("t", "more"), (("less", ("column", "a"), ("column", "b")),))
        self.merged(exchange, [more], more, *exchange)

    def test_what_goes_along_with_a_table(self):
        new = [("create", "index", "j", ("t", (("column", "b"),))), ("create", "sequence", "r", (("t", "a"),))]
        self.merged([("move", "table", "t", "old")], new, *new, ("move", "table", "t", "old"))
        self.merged([("move", "table", "t", "old")], [("replace", "sequence", "free", (("t", "a"),), "alone")],
                    ("replace", "sequence", "free", (("t", "a"),), "alone"), ("move", "table", "t", "old"))
        self.merged([("move", "table", "t", "old")], [("replace", "sequence", "q", (None,), "alone")],
                    ("replace", "sequence", "q", (None,), "alone"), ("move", "table", "t", "old"))
        self.clashes([("replace", "sequence", "free", (("t", "a"),), "alone")], [("move", "sequence", "free", "old")], ("place", FREE))

    def test_items_of_base_are_the_same_ones_in_the_sum(self):
        total = self.merged([("rename", "table", "t", "x"), number(2)], [("rename", "column", ("t", "a"), "z"), ("move", "function", "f", "old")],
                            ("rename", "table", "t", "x"), ("rename", "column", ("x", "a"), "z"), number(2), ("move", "function", "f", "old"))
        rights = Rights(self.base, ["ann", "bob"], "ann")
        for item, right in [(T, "read"), (F, "use"), (G, "use"), (V, "write"), (OLD, "make"), (Q, "use"), (D, "use")]:
            rights.give("ann", "bob", item, right, True)
        self.assertEqual(rights.follow(total, "bob"), [])
        self.assertEqual([grant[2] for grant in rights.grants()], sorted([
            ("table", "app", "x"), ("function", "old", "f"), G, V, OLD, Q, D,
        ]))
        plan = Plan(self.base, (((("o", "t"),), (), (("of", "o", "a"), ("of", "o", "b"))),))
        self.assertEqual(plan.joins(total)[0][0][0][0], ("table", "app", "x"))
        self.assertEqual([name for name, _ in plan.joins(total)[0][0][0][1]], ["b", "z"])


class Gone(Merging):
    def test_dropped_in_both_or_in_one_alone(self):
        drop = ("drop", "view", "v", "alone")
        self.merged([drop], [drop], drop)
        self.merged([drop], [number(5)], drop, number(5))
        self.merged([drop], [("drop", "table", "t", "cascade")], ("drop", "table", "t", "cascade"))

    def test_dropped_in_one_and_changed_in_the_other(self):
        drop = ("drop", "function", "f", "cascade")
        self.clashes([drop], [number(5)], ("gone", F))
        self.clashes([drop], [("rename", "function", "f", "x")], ("gone", F))
        self.clashes([drop], [("move", "function", "g", "old"), number(6)], ("gone", F), ("gone", G))
        self.clashes([("drop", "schema", "app", "cascade")], [("rename", "table", "t", "x"), ("rename", "schema", "app", "new")], ("gone", APP), ("gone", T))
        self.clashes([("drop", "column", ("t", "a"), "cascade")], [("rename", "column", ("t", "a"), "z")], ("gone", A))

    def test_what_only_tells_new_addresses_is_not_changed(self):
        self.merged([("drop", "view", "v", "alone")], [("rename", "table", "t", "x"), ("rename", "column", ("x", "a"), "z"), ("move", "table", "x", "old")],
                    ("drop", "view", "v", "alone"), ("rename", "table", "t", "x"), ("rename", "column", ("x", "a"), "z"), ("move", "table", "x", "old"))
        self.merged([("drop", "table", "t", "cascade")], [("rename", "schema", "app", "new")],
                    ("drop", "table", "t", "cascade"), ("rename", "schema", "app", "new"))

    def test_dropped_and_made_again_is_another_item(self):
        again = [("drop", "function", "f", "cascade"), function("f", ("int",))]
        self.merged(again, [], *again)
        self.clashes(again, [number(4)], ("gone", F))
        self.merged(again, [("drop", "function", "f", "cascade")], *again)

    def test_told_ahead_of_names_and_needs(self):
        self.clashes([("drop", "function", "f", "cascade"), ("create", "table", "x", ()), view("w", 2, "v", "a")],
                     [number(4), ("create", "sequence", "x", (None,)), ("drop", "view", "v", "alone")], ("gone", F))

    def test_all_words_of_the_first_sort_in_their_order(self):
        self.clashes([("drop", "view", "v", "alone"), number(1), ("rename", "table", "t", "x"), ("path", ())],
                     [("replace", "view", "v", (4, ("a",), (((("o", "t"),), (), (("of", "o", "a"),)),)), "alone"), number(2),
                      ("rename", "table", "t", "y"), ("path", ("z",))],
                     ("gone", V), ("path",), ("place", T), ("text", F))


class New(Merging):
    def test_of_one_branch_alone(self):
        new = [("create", "schema", "new", ()), ("create", "table", ("new", "t"), ()), view("w", 2, "v", "a")]
        other = [("create", "domain", "w", ("int", None)), ("create", "column", ("t", "d"), ("w", None))]
        self.merged(new, other, *new, *other)

    def test_that_are_one(self):
        new = [("create", "schema", "new", ()), ("create", "table", ("new", "t"), ()), ("create", "column", (("new", "t"), "a"), ("d", None)),
               ("create", "default", (("new", "t"), "a"), (("int", 1),)), ("create", "index", ("new", "i"), ("t", (("column", "a"),))), view("w", 2, "v", "a"),
               ("create", "sequence", ("new", "q"), (("t", "a"),)), ("create", "trigger", (("new", "t"), "u"), ("delete", ("less", ("column", "a"), ("int", 1))))]
        self.merged(new, new, *new)
        self.merged(new, [("create", "sequence", "extra", (None,))] + new[:3], *new, ("create", "sequence", "extra", (None,)))
        one, other = run(self.base, new), run(self.base, new)
        total = merged(self.base, one, other)[1]
        rights = Rights(one, ["ann", "bob"], "ann")
        rights.follow(total, "bob")
        self.assertEqual({rights.owner(item) for item in total.addresses() if item[0] in ("schema", "table", "view", "sequence")}, {"ann"})
        rights = Rights(other, ["ann", "bob"], "ann")
        rights.follow(total, "bob")
        self.assertEqual([rights.owner(("table", "new", "t")), rights.owner(T)], ["bob", "ann"])

    def test_that_are_one_by_what_they_name(self):
        one = [("rename", "function", "f", "x"), function("h", (), ("x", ("int",)))]
        self.merged(one, [function("h", (), ("f", ("int",)))], *one)
        table = [("create", "schema", "new", ()), ("create", "table", ("new", "x"), ())]
        self.merged(table + [("move", "table", "t", "new")], table + [("move", "table", "t", "new")], *table, ("move", "table", "t", "new"))
        self.clashes([("create", "schema", "new", ()), ("move", "table", "t", "new")], [("create", "schema", "newer", ()), ("move", "table", "t", "newer")],
                     ("place", T))

    def test_that_are_not_one(self):
        self.clashes([function("h", ())], [function("h", ("int",))], ("name", ("function", "app"), "h"))
        self.clashes([("create", "table", "x", ())], [("create", "sequence", "x", (None,))], ("name", ("relation", "app"), "x"))
        self.clashes([("create", "default", ("t", "a"), (("int", 1),))], [("create", "default", ("t", "a"), (("int", 2),))],
                     ("name", ("default", "app", "t"), "a"))
        self.clashes([("create", "schema", "new", ())], [("rename", "schema", "old", "new")], ("name", ("schema",), "new"))
        self.clashes([("create", "column", ("t", "x"), ("int", None))], [("rename", "column", ("t", "a"), "x")], ("name", ("column", "app", "t"), "x"))

    def test_in_two_schemas_or_tables_of_one_name(self):
        table = ("create", "table", ("new", "x"), ())
        self.clashes([("create", "schema", "new", ()), table], [("rename", "schema", "old", "new"), table],
                     ("name", ("relation", "new"), "x"), ("name", ("schema",), "new"))
        columns = [("create", "table", ("old", "x"), ()), ("create", "column", (("old", "x"), "a"), ("int", None))]
        self.clashes(columns, [("rename", "table", "t", "x"), ("move", "table", "x", "old")],
                     ("name", ("column", "old", "x"), "a"), ("name", ("relation", "old"), "x"))

    def test_columns_of_one_table_that_are_one_and_that_are_not(self):
        def table(base):
            return [("create", "table", "x", ()), ("create", "column", ("x", "a"), (base, None)), ("create", "column", ("x", "b"), ("int", None))]
        self.merged(table("int"), table("int"), *table("int"))
        self.clashes(table("int"), table("text"), ("name", ("column", "app", "x"), "a"))

    def test_functions_that_call_one_another(self):
        def ring(k):
            call = ("add", ("call", ("app", "y"), ()), ("int", k))
            return [function("x", ()), function("y", (), ("x", ())), ("replace", "function", "x", ((), "int", call), "alone")]
        self.merged(ring(1), ring(1), *ring(1))
        self.clashes(ring(1), ring(2), ("name", ("function", "app"), "x"), ("name", ("function", "app"), "y"))
        self.clashes(ring(1), ring(1)[:2], ("name", ("function", "app"), "x"), ("name", ("function", "app"), "y"))
        three = ring(1) + [function("z", (), ("y", ()))]
        self.merged(three, three, *three)
        self.clashes(three, ring(2) + [function("z", (), ("y", ()))], *[("name", ("function", "app"), name) for name in "xyz"])

    def test_functions_that_call_themselves(self):
        def own(k):
            return ("create", "function", "x", ((), "int", ("add", ("call", ("app", "x"), ()), ("int", k))))
        self.merged([own(1)], [own(1)], own(1))
        self.clashes([own(1)], [own(2)], ("name", ("function", "app"), "x"))
        replaced = ("replace", "function", "f", (("int",), "int", ("call", ("app", "f"), (("param", 0),))), "alone")
        self.merged([replaced], [("rename", "function", "f", "x")], replaced, ("rename", "function", "f", "x"))

    def test_a_long_row_of_functions_of_which_the_last_differ(self):
        def row(k, many):
            names = [letter * 2 for letter in "abcdefghijklmnopqrstuvwxyz"[:many]]
            script = [("create", "function", names[0], ((), "int", ("int", k)))]
            return script + [function(name, (), (before, ())) for before, name in zip(names, names[1:])], names
        script, names = row(1, 25)
        self.merged(script, script, *script)
        self.clashes(script, row(2, 25)[0], *[("name", ("function", "app"), name) for name in names])


class Unmet(Merging):
    def test_what_is_needed_is_gone(self):
        self.clashes([view("w", 2, "v", "a")], [("drop", "view", "v", "alone")],
                     ("need", ("view", "app", "w"), (V, None, ("below", 2), "hard")), ("need", ("view", "app", "w"), (V, "a", "int", "hard")))
        self.clashes([("create", "column", ("t", "x"), ("int", None))], [("drop", "table", "t", "cascade")],
                     ("need", ("column", "app", "t", "x"), (T, None, None, "owned")))
        self.clashes([("create", "default", ("t", "a"), (("int", 1),))], [("drop", "column", ("t", "a"), "cascade")],
                     ("need", ("default", "app", "t", "a"), (A, None, "int", "owned")))

    def test_what_is_needed_offers_something_else(self):
        self.clashes([function("h", (), ("f", ("int",)))], [("replace", "function", "f", ((), "int", ("int", 1)), "cascade")],
                     ("need", ("function", "app", "h"), (F, None, (("int",), "int"), "hard")))
        self.clashes([("create", "column", ("t", "x"), ("int", ("column", "a")))], [("replace", "column", ("t", "a"), ("int", ("int", 1)), "cascade")],
                     ("need", ("column", "app", "t", "x"), (A, "plain", "int", "hard")))
        self.clashes([view("w", 2, "v", "a")], [("replace", "view", "v", (2, ("a",), (((("o", "t"),), (), (("of", "o", "a"),)),)), "alone")],
                     ("need", ("view", "app", "w"), (V, None, ("below", 2), "hard")))
        self.clashes([("create", "column", ("t", "x"), ("d", None))], [("replace", "domain", "d", ("text", None), "cascade")],
                     ("need", ("column", "app", "t", "x"), (D, None, "int", "hard")))

    def test_schemas_by_the_place(self):
        self.clashes([("create", "table", ("old", "x"), ())], [("drop", "schema", "old", "alone")],
                     ("need", ("table", "old", "x"), (OLD, None, None, "hard")))
        self.clashes([("move", "table", "t", "old")], [("drop", "schema", "old", "alone")],
                     ("need", I, (OLD, None, None, "hard")), ("need", Q, (OLD, None, None, "hard")), ("need", T, (OLD, None, None, "hard")))
        self.merged([("move", "function", "g", "old"), ("move", "function", "f", "old")], [("rename", "schema", "old", "new")],
                    ("move", "function", "g", "old"), ("move", "function", "f", "old"), ("rename", "schema", "old", "new"))

    def test_schemas_are_not_asked_without_the_table(self):
        self.clashes([("create", "index", "j", ("t", (("int", 1),))), ("create", "sequence", "r", (("t", "a"),))],
                     [("drop", "schema", "app", "cascade")],
                     ("need", ("index", "app", "j"), (T, None, None, "owned")), ("need", ("sequence", "app", "r"), (A, None, None, "owned")))

    def test_addresses_of_the_base_or_of_the_branch(self):
        self.clashes([("rename", "table", "t", "x"), ("create", "check", ("x", "z"), (("less", ("column", "b"), ("int", 1)),))],
                     [("drop", "column", ("t", "b"), "cascade")],
                     ("need", ("check", "app", "x", "z"), (B, None, "int", "soft")))
        self.clashes([("rename", "schema", "app", "new"), ("create", "function", ("new", "h"), ((), "int", ("call", ("new", "f"), (("int", 1),))))],
                     [("drop", "function", "f", "cascade")],
                     ("need", ("function", "new", "h"), (F, None, (("int",), "int"), "hard")))

    def test_the_lesser_address_of_items_that_are_one(self):
        new = ("create", "column", (("old", "x"), "n"), ("int", None))
        base = branch_of(run(self.base, [("create", "table", ("old", "x"), ())]))
        one = base.run(("rename", "table", ("old", "x"), "z"), ("create", "column", (("old", "z"), "n"), ("d", None)))
        other = base.run(("create", "column", (("old", "x"), "n"), ("d", None)), ("replace", "domain", "d", ("int", ("less", ("value",), ("int", 4))), "alone"))
        self.assertEqual(self.check(base, one, other)[0], "merged")
        gone = base.run(("create", "column", (("old", "x"), "n"), ("d", None)))
        text = base.run(("rename", "table", ("old", "x"), "z"), ("create", "column", (("old", "z"), "n"), ("d", None)))
        self.assertEqual(self.check(base, gone, text)[0], "merged")
        aa = base.run(new, ("create", "check", (("old", "x"), "w"), (("less", ("column", "n"), ("int", 1)),)))
        bb = base.run(("rename", "table", ("old", "x"), "aa"), ("create", "column", (("old", "aa"), "n"), ("int", None)))
        total = self.check(base, aa, bb)
        self.assertEqual(total[0], "merged")
        self.assertIn(("check", "old", "aa", "w"), total[1])


class WithoutAddress(Merging):
    """What lies in an item that is not in the sum has no address there, so its name meets no other one."""

    def test_an_index_whose_table_is_gone(self):
        index = ("create", "index", "j", ("t", (("column", "a"),)))
        needs = [("need", ("index", "app", "j"), (A, None, "int", "soft")), ("need", ("index", "app", "j"), (T, None, None, "owned"))]
        for taker in [("create", "table", "j", ()), ("create", "sequence", "j", (None,)), ("rename", "sequence", "free", "j")]:
            self.clashes([("drop", "table", "t", "cascade"), taker], [index], *needs)
        again = [("create", "table", "t", ()), ("create", "column", ("t", "a"), ("int", None)), index]
        self.clashes([("drop", "table", "t", "cascade")] + again, [index], *needs)

    def test_a_sequence_whose_table_is_gone(self):
        owned = ("create", "sequence", "j", (("t", "a"),))
        need = ("need", ("sequence", "app", "j"), (A, None, None, "owned"))
        self.clashes([("drop", "table", "t", "cascade"), ("create", "table", "j", ())], [owned], need)
        self.clashes([("drop", "table", "t", "cascade"), ("rename", "sequence", "free", "j")], [owned], need)
        column = ("create", "column", ("t", "n"), ("int", None))
        self.clashes([("drop", "table", "t", "cascade"), ("create", "table", "j", ())], [column, ("create", "sequence", "j", (("t", "n"),))],
                     ("need", ("column", "app", "t", "n"), (T, None, None, "owned")))

    def test_a_sequence_of_base_that_has_an_owner_now(self):
        self.clashes([("drop", "table", "t", "cascade"), ("create", "table", "j", ())],
                     [("replace", "sequence", "free", (("t", "a"),), "alone"), ("rename", "sequence", "free", "j")],
                     ("need", FREE, (A, None, None, "owned")))

    def test_what_lies_in_a_table_that_is_made_again(self):
        again = [("drop", "table", "t", "cascade"), ("create", "table", "t", ())]
        for kind, definition in [("column", ("int", None)), ("check", (("equal", ("int", 1), ("int", 1)),)),
                                 ("trigger", ("insert", ("equal", ("int", 1), ("int", 1))))]:
            new = ("create", kind, ("t", "n"), definition)
            self.clashes(again + [new], [new], ("need", (kind, "app", "t", "n"), (T, None, None, "owned")))

    def test_the_default_of_a_column_that_is_made_again(self):
        again = [("drop", "column", ("t", "a"), "cascade"), ("create", "column", ("t", "a"), ("int", None))]
        new = ("create", "default", ("t", "a"), (("int", 1),))
        self.clashes(again + [new], [new], ("need", ("default", "app", "t", "a"), (A, None, "int", "owned")))

    def test_what_lies_in_a_schema_that_is_made_again(self):
        again = [("drop", "schema", "old", "alone"), ("create", "schema", "old", ())]
        for kind, definition in [("table", ()), ("sequence", (None,)), ("domain", ("int", None)), ("function", ((), "int", ("int", 1)))]:
            new = ("create", kind, ("old", "n"), definition)
            self.clashes(again + [new], [new], ("need", (kind, "old", "n"), (OLD, None, None, "hard")))

    def test_at_any_depth(self):
        again = [("drop", "schema", "old", "alone"), ("create", "schema", "old", ()), ("create", "table", ("old", "t"), ()),
                 ("create", "column", (("old", "t"), "a"), ("int", None)), ("create", "default", (("old", "t"), "a"), (("int", 1),)),
                 ("create", "domain", ("old", "i"), ("int", None)), ("create", "sequence", ("old", "q"), (None,))]
        self.clashes([("move", "table", "t", "old")], again,
                     ("need", I, (OLD, None, None, "hard")), ("need", Q, (OLD, None, None, "hard")), ("need", T, (OLD, None, None, "hard")))

    def test_other_names_meet(self):
        self.clashes([("drop", "table", "t", "cascade"), ("create", "table", "j", ()), ("create", "domain", "e", ("int", None))],
                     [("create", "index", "j", ("t", (("column", "a"),))), ("create", "domain", "e", ("text", None))],
                     ("name", ("domain", "app"), "e"))


class Laws(Merging):
    def test_the_merge_of_a_merge_and_one(self):
        for one, other in [
            ([("rename", "table", "t", "x"), view("w", 2, "v", "a")], [number(4), ("create", "table", "new", ())]),
            ([("create", "table", "new", ())], [("create", "table", "new", ()), ("create", "column", ("new", "a"), ("int", None))]),
            ([("drop", "view", "v", "alone"), function("h", (), ("f", ("int",)))], [("rename", "function", "f", "z"), function("h", (), ("z", ("int",)))]),
        ]:
            first, second = run(self.base, one), run(self.base, other)
            total = merged(self.base, first, second)[1]
            for side in (first, second):
                self.assertEqual(merged(self.base, total, side), ("merged", total))
                self.assertEqual(merged(self.base, side, total), ("merged", total))
            self.assertEqual(merged(self.base, total, total), ("merged", total))
            again = merged(total, run(total, [("create", "domain", "more", ("int", None))]), run(total, [("drop", "domain", "d", "alone")]))
            self.assertEqual(again[1], run(total, [("create", "domain", "more", ("int", None)), ("drop", "domain", "d", "alone")]))

    def test_more_than_120_items(self):
        def functions(letter, many):
            return [function(letter + one + two, ()) for one in "abcdefgh" for two in "abcdefgh"][:many]
        half = (120 - len(self.base)) // 2
        one, other = functions("x", half), functions("y", 120 - len(self.base) - half)
        self.assertEqual(len(self.merged(one, other, *one, *other)), 120)
        more = functions("y", 121 - len(self.base) - half)
        with self.assertRaises(TooMany) as caught:
            merged(self.base, run(self.base, one), run(self.base, more))
        self.assertEqual(caught.exception.limit, 120)
        for clash, first, second in [
            (("text", F), [number(1)], [number(2)]), (("path",), [("path", ())], [("path", ("b",))]),
            (("name", ("domain", "app"), "e"), [("create", "domain", "e", ("int", None))], [("create", "domain", "e", ("text", None))]),
            (("need", ("table", "old", "x"), (OLD, None, None, "hard")), [("create", "table", ("old", "x"), ())], [("drop", "schema", "old", "alone")]),
        ]:
            told = merged(self.base, run(self.base, one + first), run(self.base, more + second))
            self.assertEqual(told, ("clashes", [clash]))

    def test_without_duplicates(self):
        self.clashes([("create", "table", "x", ())], [("create", "sequence", "x", (None,)), ("move", "table", "t", "old")],
                     ("name", ("relation", "app"), "x"))
        self.clashes([("create", "table", "x", ()), ("create", "sequence", ("old", "x"), (None,))],
                     [("create", "sequence", "x", (None,)), ("move", "function", "f", "old")], ("name", ("relation", "app"), "x"))

    def test_what_is_returned_is_the_callers(self):
        one, other = run(self.base, [number(1)]), run(self.base, [number(2)])
        merged(self.base, one, other)[1].clear()
        self.assertEqual(merged(self.base, one, other), ("clashes", [("text", F)]))


class Drawn(Merging):
    def statement(self, drawing, catalog):
        kinds = ["table", "column", "column", "view", "function", "function", "domain", "index", "sequence", "default", "check", "schema"]
        statement = drawing.change(catalog) if drawing.chance(55) else drawing.create(catalog, kinds)
        if statement is not None and statement[0] in ("drop", "replace") and (statement[0] == "replace" or drawing.chance(30)):
            statement = statement[:-1] + ("cascade",)
        return statement

    def test_drawn_branches(self):
        words = {}
        for seed in range(300):
            drawing = Drawing(seed, "abcde")
            base = branch_of(drawing.catalog(drawing.one([12, 24, 40])))
            shared = [self.statement(drawing, base.catalog) for _ in range(drawing.random.randrange(4))]
            sides = []
            for _ in range(2):
                side = base
                for _ in range(drawing.one([2, 4, 12])):
                    side = side.tried([found for found in [self.statement(drawing, side.catalog)] if found is not None])
                    side = side.tried([found for found in shared if found is not None and drawing.chance(35)])
                sides.append(side)
            told = self.check(base, *sides)
            for word in [told[0]] if told[0] == "merged" else sorted({clash[0] for clash in told[1]}):
                words[word] = words.get(word, 0) + 1
            for side in sides:
                self.assertEqual(merged(base.catalog, side.catalog, side.catalog), ("merged", side.catalog))
                self.assertEqual(merged(base.catalog, base.catalog, side.catalog), ("merged", side.catalog))
            if told[0] == "merged":
                for side in sides:
                    self.assertEqual(merged(base.catalog, told[1], side.catalog), told)
        self.assertGreater(min(words.values()), 3)
        self.assertEqual(sorted(words), ["gone", "merged", "name", "need", "path", "place", "text"])

    def test_drawn_new_items_in_both(self):
        words, matched = {}, 0
        for seed in range(150):
            drawing = Drawing(seed, "abc")
            base = branch_of(drawing.catalog(4))
            other = drawing.catalog(16)
            script = [("create", item[0], where_of(item), other[item]) for item in other.addresses() if item[0] != "schema"]
            sides = []
            for _ in range(2):
                chosen = [statement for statement in script if drawing.chance(85)]
                chosen = [statement if drawing.chance(93) else self.otherwise(drawing, other, statement) for statement in chosen]
                sides.append(base.tried(chosen * 4))
            merge = Merge(base, *sides)
            matched += len(merge.pairs)
            told = self.check(base, *sides)
            words[told[0]] = words.get(told[0], 0) + 1
        self.assertGreater(min(words.values()), 20)
        self.assertGreater(matched, 300)

    def test_drawn_items_in_what_is_dropped_and_made_again(self):
        words, without = {}, 0
        for seed in range(150):
            drawing = Drawing(seed, "abcdef")
            base = branch_of(drawing.catalog(16))
            item = drawing.one(drawing.items(base.catalog, "schema", "table", "column"))
            other = base
            for _ in range(6):
                made = drawing.create(other.catalog, ["table", "column", "index", "sequence", "default", "check", "domain"])
                other = other.tried([made] if made is not None else [])
            one = base.run(("drop", item[0], where_of(item), "cascade")).tried(self.again(drawing, base.catalog, other.catalog, item) * 4)
            told = self.check(base, one, other)
            found = {told[0]} if told[0] == "merged" else {clash[0] for clash in told[1]}
            for word in found:
                words[word] = words.get(word, 0) + 1
            without += found == {"need"} and self.meets_without_address(Merge(base, one, other))
        self.assertGreater(min(words.values()), 20)
        self.assertEqual(sorted(words), ["merged", "name", "need"])
        self.assertGreater(without, 30)

    def again(self, drawing, base, other, item):
        """Statements for what falls with an item of base and for what is new in other, or for tables of these names."""
        new = [address for address in other.addresses() if address not in base]
        script = [("create", address[0], where_of(address), other[address]) for address in new + falls(base, item)]
        tables = [("create", "table", address[1:], ()) for address in new if len(address) == 3]
        return [statement for statement in script + tables if drawing.chance(75)]

    def meets_without_address(self, merge):
        """Whether an item that has no address in the sum had one in its branch whose name stands in the sum."""
        def place(address):
            return space_of(address) + address[-1:]
        told = {merge.address(node) for node in merge.texts} - {None}
        lost = [merge.told_address(node) for node in merge.texts if merge.address(node) is None]
        return any(place(address) in {place(other) for other in told} for address in lost)

    def otherwise(self, drawing, catalog, statement):
        try:
            definition = drawing.definition(catalog, statement[1], (statement[1],) + (statement[2] if isinstance(statement[2][0], str) else (
                *statement[2][0], statement[2][1])))
        except (CatalogError, IndexError, KeyError):
            definition = None
        return statement if definition is None else statement[:3] + (definition,)


class ExampleOfTheDocument(unittest.TestCase):
    def test_it(self):
        catalog = run(Catalog(), [
            ("create", "schema", "app", ()), ("path", ("old", "app")), ("create", "table", "orders", ()),
            ("create", "column", ("orders", "net"), ("int", None)), ("create", "index", "bynet", ("orders", (("column", "net"),))),
            view("nets", 1, "orders", "net"),
        ])
        one = run(catalog, [("rename", "table", "orders", "bills")])
        self.assertEqual(merged(catalog, one, run(catalog, [("drop", "schema", "app", "cascade")])), ("clashes", [("gone", ("table", "app", "orders"))]))

    def test_the_shop(self):
        catalog = shop()
        one = run(catalog, [("move", "table", "orders", "old"), ("rename", "column", (("old", "orders"), "net"), "gain")])
        other = run(catalog, [("rename", "view", "nets", "sums"), ("replace", "function", "tax", (("int",), "int", ("int", 7)), "alone")])
        total = merged(catalog, one, other)
        self.assertEqual(total, merged(catalog, other, one))
        self.assertEqual(total[1], done(run(one, [("rename", "view", "nets", "sums")]), (
            "replace", "function", "tax", (("int",), "int", ("int", 7)), "alone",
        )))
