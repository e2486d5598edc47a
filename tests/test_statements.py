"""[60], [61] statements, with [31], [41] and [8] on any value."""

import unittest

from leancatalog.catalogs import Catalog
from leancatalog.errors import NoName
from leancatalog.statements import is_statement, written_out
from leancatalog.words import KINDS
from tests.build import CREATE, made, shop
from tests.stub import Odd, all_sorts, nested

ONE, YES = ("int", 1), ("equal", ("int", 1), ("int", 1))
QUERY = (((("o", "t"),), (), (ONE,)),)

# A definition of each kind, which is one of no other kind; but those of domains and triggers are of columns, too.
DEFINITIONS = {
    "schema": (), "domain": ("int", None), "sequence": (None,), "table": (), "view": (1, ("n",), QUERY),
    "function": ((), "int", ONE), "index": ("t", (ONE,)), "column": (("s", "d"), None),
    "default": (("add", ("next", "q"), ONE),),
    "check": (("less", ("column", "c"), ONE),), "trigger": ("insert", YES),
}
IN_TABLE = ("column", "default", "check", "trigger")
REPLACED = ("domain", "sequence", "column", "default", "check", "view", "function")
RENAMED = tuple(kind for kind in KINDS if kind != "default")
MOVED = ("domain", "sequence", "table", "view", "function")
WAYS = ("alone", "restrict", "cascade")

NAMES_WRONG = ["", "A", "toolongxx", "a1", "a b", "\u00e9", b"a", None, 1, True, (), ("a",), ["a"], Odd()]
REFS_WRONG = [
    "", "A", "toolongxx", 1, None, (), ("a",), ("a", "b", "c"), ("a", ""), ("", "a"), ["a", "b"], ("a", 1), ("a", ("b",)),
    (("a", "b"), "c"), Odd(),
]


def wheres(kind):
    if kind == "schema":
        return ["a", "abcdefgh"]
    if kind in IN_TABLE:
        return [("t", "n"), (("s", "t"), "n")]
    return ["n", ("s", "n")]


def wrong_wheres(kind):
    if kind == "schema":
        return NAMES_WRONG + [("s", "n"), ("s",)]
    if kind in IN_TABLE:
        wrong = [(ref, "n") for ref in REFS_WRONG] + [("t", name) for name in NAMES_WRONG]
        return wrong + ["n", "t", ("t",), (), ("s", "t", "n"), ("t", "n", "n"), ["t", "n"], (("s", "t"), ("s", "n")), None]
    return REFS_WRONG


class IsStatement(unittest.TestCase):
    def right(self, *things):
        for thing in things:
            self.assertIs(is_statement(thing), True, thing)

    def wrong(self, *things):
        for thing in things:
            self.assertIs(is_statement(thing), False, thing)

    def test_create(self):
        for kind in KINDS:
            for where in wheres(kind):
                self.right(("create", kind, where, DEFINITIONS[kind]))
                self.wrong(
                    ("create", kind, where), ("create", kind, where, DEFINITIONS[kind], "alone"),
                    ("create", kind, where, list(DEFINITIONS[kind])), ("create", kind, where, "alone"),
                    ["create", kind, where, DEFINITIONS[kind]],
                )

    def test_drop(self):
        for kind in KINDS:
            for where in wheres(kind):
                self.right(*[("drop", kind, where, way) for way in WAYS])
                self.wrong(("drop", kind, where), ("drop", kind, where, "alone", "alone"))
                self.wrong(*[("drop", kind, where, way) for way in ["", "n", "Alone", "hard", None, 1, True, ("alone",)]])

    def test_replace(self):
        for kind in KINDS:
            for where in wheres(kind):
                for way in WAYS:
                    statement = ("replace", kind, where, DEFINITIONS[kind], way)
                    self.assertIs(is_statement(statement), kind in REPLACED)
                self.wrong(
                    ("replace", kind, where, DEFINITIONS[kind]), ("replace", kind, where, DEFINITIONS[kind], "n"),
                    ("replace", kind, where, "alone", DEFINITIONS[kind]),
                    ("replace", kind, where, DEFINITIONS[kind], "alone", "alone"),
                    ("replace", kind, where, DEFINITIONS[kind], None), ("replace", kind, where, DEFINITIONS[kind], ["alone"]),
                )

    def test_rename(self):
        for kind in KINDS:
            for where in wheres(kind):
                self.assertIs(is_statement(("rename", kind, where, "new")), kind in RENAMED)
                self.assertIs(is_statement(("rename", kind, where, "alone")), kind in RENAMED)
                self.wrong(("rename", kind, where), ("rename", kind, where, "new", "alone"))
                self.wrong(*[("rename", kind, where, name) for name in NAMES_WRONG + [("s", "new")]])

    def test_move(self):
        for kind in KINDS:
            for where in wheres(kind):
                self.assertIs(is_statement(("move", kind, where, "new")), kind in MOVED)
                self.wrong(("move", kind, where), ("move", kind, where, "new", "alone"))
                self.wrong(*[("move", kind, where, name) for name in NAMES_WRONG + [("s", "new")]])

    def test_path(self):
        self.right(*[("path", ("a",) * many) for many in range(9)])
        self.right(("path", ("abcdefgh", "a", "zz")))
        self.wrong(("path", ("a",) * 9), ("path", ["a"]), ("path", "a"), ("path",), ("path", ("a",), ("b",)), ("path", None))
        self.wrong(("path", "a", "b", "c"), ["path", ("a",)], ("path", {"a": 1}), ("path", (("s", "a"),)))
        self.wrong(*[("path", ("a", name)) for name in NAMES_WRONG])

    def test_wrong_wheres(self):
        for kind in KINDS:
            for where in wrong_wheres(kind):
                self.wrong(
                    ("create", kind, where, DEFINITIONS[kind]), ("drop", kind, where, "alone"),
                    ("replace", kind, where, DEFINITIONS[kind], "alone"), ("rename", kind, where, "new"),
                    ("move", kind, where, "new"),
                )

    def test_the_where_of_one_kind_in_another(self):
        for kind in KINDS:
            for other in KINDS:
                for where in wheres(other):
                    self.assertIs(is_statement(("drop", kind, where, "alone")), self.where_fits(kind, where))

    def where_fits(self, kind, where):
        if isinstance(where, str):
            return kind not in IN_TABLE
        if isinstance(where[0], tuple):
            return kind in IN_TABLE
        return kind != "schema"

    def test_the_definition_of_one_kind_in_another(self):
        for kind in KINDS:
            for other in KINDS:
                alike = kind == other or {kind, other} == {"schema", "table"}
                alike = alike or (kind == "column" and other in ("domain", "trigger"))
                for word, end in [("create", ()), ("replace", ("alone",))]:
                    statement = (word, kind, wheres(kind)[0], DEFINITIONS[other]) + end
                    self.assertIs(is_statement(statement), alike and (word == "create" or kind in REPLACED))
        self.right(("create", "column", ("t", "c"), ("int", None)))

    def test_other_words_and_kinds(self):
        for word in ["", "Create", "make", "create ", None, 1, True, b"create", ("create",), ["create"], Odd(), {}, set()]:
            self.wrong((word, "table", "t", ()), (word, "table", "t", "alone"), (word, "table", "t", "new"), (word, ("a",)))
        for kind in ["", "Table", "relation", "tables", None, 0, False, b"table", ("table",), ["table"], Odd(), {}, set()]:
            self.wrong(("create", kind, "t", ()), ("drop", kind, "t", "alone"), ("rename", kind, "t", "new"))
            self.wrong(("replace", kind, "t", ("int", None), "alone"), ("move", kind, "t", "new"))

    def test_lists_for_tuples(self):
        self.wrong(
            ("create", "table", ["s", "t"], ()), ("create", "table", "t", []), ("drop", "column", [("s", "t"), "c"], "alone"),
            ("drop", "column", (["s", "t"], "c"), "alone"), ("create", "view", "v", [1, ("n",), QUERY]),
            ("create", "view", "v", (1, ["n"], QUERY)), ("create", "view", "v", (1, ("n",), list(QUERY))),
        )

    def test_other_sorts(self):
        for thing in all_sorts() + [nested(20), Odd()]:
            self.wrong(
                thing, (thing,), (thing, thing), ("create", thing), ("create", "table", thing, ()), ("path", thing)
                if thing != () else None, ("create", "column", ("t", "c"), thing), ("create", thing, "t", ()),
                (thing, "table", "t", ()), ("drop", "table", "t", thing), ("drop", "column", ("t", thing), "alone"),
                ("drop", "column", (thing, "c"), "alone"), ("replace", "domain", "d", thing, "alone"),
                ("replace", "domain", "d", ("int", None), thing), ("rename", "table", "t", thing),
                ("move", "table", "t", thing), ("create", "view", "v", (1, ("n",), thing)),
                ("create", "domain", "d", ("int", thing)) if thing is not None else None,
            )

    def test_whatever_is_there(self):
        self.right(("drop", "table", ("none", "none"), "alone"), ("create", "domain", "d", ("int", ("add", YES, YES))))


class WrittenOut(unittest.TestCase):
    def setUp(self):
        self.catalog = made([
            (CREATE, "schema", "a", ()), (CREATE, "schema", "b", ()), (CREATE, "schema", "c", ()),
            ("path", ("none", "b", "a", "b")),
            (CREATE, "table", ("b", "t"), ()), (CREATE, "table", ("a", "t"), ()), (CREATE, "table", ("a", "u"), ()),
            (CREATE, "table", ("c", "far"), ()),
            (CREATE, "column", (("b", "t"), "c"), ("int", None)), (CREATE, "column", (("a", "t"), "c"), ("int", None)),
            (CREATE, "sequence", ("b", "q"), (None,)), (CREATE, "sequence", ("a", "mixed"), (None,)),
            (CREATE, "domain", ("a", "d"), ("int", None)), (CREATE, "function", ("b", "f"), ((), "int", ONE)),
            (CREATE, "view", ("a", "v"), DEFINITIONS["view"]), (CREATE, "index", ("b", "i"), DEFINITIONS["index"]),
            (CREATE, "view", ("b", "mixed"), DEFINITIONS["view"]),
        ])

    def out(self, statement, wanted):
        self.assertEqual(written_out(self.catalog, statement), wanted)
        self.assertEqual(written_out(self.catalog, wanted), wanted)

    def no_name(self, statement, space, name, catalog=None):
        with self.assertRaises(NoName) as caught:
            written_out(self.catalog if catalog is None else catalog, statement)
        self.assertEqual([caught.exception.space, caught.exception.name], [space, name])

    def test_schemas_and_paths_stay(self):
        for statement in [
            ("create", "schema", "new", ()), ("drop", "schema", "none", "alone"), ("rename", "schema", "a", "b"),
            ("path", ()), ("path", ("none", "b")),
        ]:
            self.out(statement, statement)

    def test_where_of_items_of_each_kind(self):
        for kind, name, schema in [
            ("table", "t", "b"), ("table", "u", "a"), ("sequence", "q", "b"), ("domain", "d", "a"),
            ("function", "f", "b"), ("view", "v", "a"), ("view", "mixed", "b"), ("index", "i", "b"),
        ]:
            self.out(("drop", kind, name, "restrict"), ("drop", kind, (schema, name), "restrict"))
            self.out(("rename", kind, name, "new"), ("rename", kind, (schema, name), "new"))
            if kind in MOVED:
                self.out(("move", kind, name, "a"), ("move", kind, (schema, name), "a"))
            if kind in REPLACED:
                definition = written_out(self.catalog, ("create", kind, "x", DEFINITIONS[kind]))[3]
                self.out(("replace", kind, name, DEFINITIONS[kind], "alone"),
                         ("replace", kind, (schema, name), definition, "alone"))

    def test_where_of_what_lies_in_a_table(self):
        for kind in IN_TABLE:
            self.out(("drop", kind, ("t", "c"), "alone"), ("drop", kind, (("b", "t"), "c"), "alone"))
            self.out(("drop", kind, ("u", "none"), "alone"), ("drop", kind, (("a", "u"), "none"), "alone"))
            definition = written_out(self.catalog, ("create", kind, (("b", "t"), "x"), DEFINITIONS[kind]))[3]
            self.out(("create", kind, ("u", "x"), DEFINITIONS[kind]), ("create", kind, (("a", "u"), "x"), definition))

    def test_a_created_item_comes_to_the_first_schema_that_is_there(self):
        for kind in ("domain", "sequence", "table", "function"):
            for name in ["new", "t", "q", "d", "f", "u"]:
                self.out(("create", kind, name, DEFINITIONS[kind]), ("create", kind, ("b", name), DEFINITIONS[kind]))
        for path, schema in [(("a", "b"), "a"), (("c",), "c"), (("x", "y", "c", "a"), "c")]:
            catalog = made([("path", path)], self.catalog)
            self.assertEqual(written_out(catalog, ("create", "table", "t", ())), ("create", "table", (schema, "t"), ()))

    def test_where_no_schema_of_the_path_is_there(self):
        for catalog in [Catalog(), made([("path", ("none", "t"))], self.catalog), made([("path", ())], self.catalog)]:
            for kind in ("domain", "sequence", "table", "function", "view", "index"):
                self.no_name(("create", kind, "new", DEFINITIONS[kind]), "schema", "new", catalog)
            for kind in IN_TABLE:
                self.no_name(("create", kind, ("t", "new"), DEFINITIONS[kind]), "relation", "t", catalog)
            statement = ("create", "table", ("none", "t"), ())
            self.assertEqual(written_out(catalog, statement), statement)

    def test_another_kind_of_item_counts_as_none(self):
        for kind, name in [("table", "q"), ("view", "t"), ("sequence", "i"), ("index", "v"), ("sequence", "mixed"),
                           ("table", "far")]:
            self.no_name(("drop", kind, name, "alone"), "relation", name)
        for kind in IN_TABLE:
            for name in ["v", "q", "i", "mixed", "none", "far"]:
                self.no_name(("drop", kind, (name, "c"), "alone"), "relation", name)

    def test_spaces_of_what_is_not_found(self):
        for kind, space in [
            ("table", "relation"), ("view", "relation"), ("sequence", "relation"), ("index", "relation"),
            ("domain", "domain"), ("function", "function"),
        ]:
            for statement in [("drop", kind, "none", "alone"), ("rename", kind, "none", "new")]:
                self.no_name(statement, space, "none")
        self.no_name(("replace", "domain", "t", ("int", None), "alone"), "domain", "t")
        self.no_name(("move", "function", "d", "a"), "function", "d")

    def test_tuples_stay_whether_they_tell_an_item_or_not(self):
        none = ("none", "none")
        for statement in [
            ("drop", "table", none, "alone"), ("drop", "column", (none, "c"), "alone"), ("move", "view", none, "none"),
            ("create", "table", none, ()), ("create", "column", (none, "c"), (none, None)),
            ("create", "default", (none, "c"), (("add", ("next", none), ("call", none, ())),)),
            ("replace", "view", none, (1, ("n",), (((("o", none),), (), (ONE,)),)), "cascade"),
            ("drop", "table", ("a", "q"), "alone"), ("create", "table", ("b", "t"), ()),
        ]:
            self.out(statement, statement)

    def test_refs_in_definitions(self):
        calls = ("add", ("call", "f", (("call", ("a", "f"), ()),)), ("next", "q"))
        self.out(("create", "default", ("t", "c"), (calls,)), ("create", "default", (("b", "t"), "c"), (
            ("add", ("call", ("b", "f"), (("call", ("a", "f"), ()),)), ("next", ("b", "q"))),
        )))
        self.out(("create", "column", ("t", "x"), ("d", ("call", "f", ()))),
                 ("create", "column", (("b", "t"), "x"), (("a", "d"), ("call", ("b", "f"), ()))))
        self.out(("create", "column", ("t", "x"), ("int", None)), ("create", "column", (("b", "t"), "x"), ("int", None)))
        query = (
            ((("o", "t"), ("p", "v"), ("q", ("c", "far"))), (), (ONE,)), ((("t", "mixed"), ("v", "t")), (), (ONE,)),
        )
        self.out(("create", "view", "x", (1, ("n",), query)), ("create", "view", ("b", "x"), (1, ("n",), (
            ((("o", ("b", "t")), ("p", ("a", "v")), ("q", ("c", "far"))), (), (ONE,)),
            ((("t", ("b", "mixed")), ("v", ("b", "t"))), (), (ONE,)),
        ))))

    def test_the_table_of_an_index_and_the_owner_of_a_sequence_are_no_refs(self):
        self.out(("create", "index", "x", ("u", (ONE,))), ("create", "index", ("b", "x"), ("u", (ONE,))))
        self.out(("create", "sequence", "x", (("u", "c"),)), ("create", "sequence", ("b", "x"), (("u", "c"),)))

    def test_sources_and_nexts_have_to_tell_their_kinds(self):
        for name in ["q", "i", "none", "far"]:
            self.no_name(("create", "view", "x", (1, ("n",), (((("o", name),), (), (ONE,)),))), "relation", name)
        for name in ["t", "v", "i", "mixed", "none"]:
            self.no_name(("create", "default", ("t", "c"), (("next", name),)), "relation", name)

    def test_an_item_that_hides_a_later_one(self):
        catalog = made([("path", ("a", "b"))], self.catalog)
        statement = ("create", "default", ("t", "c"), (("next", "mixed"),))
        self.assertEqual(written_out(catalog, statement)[3], (("next", ("a", "mixed")),))
        self.no_name(statement, "relation", "mixed")
        view = ("create", "view", "x", (1, ("n",), (((("o", "mixed"),), (), (ONE,)),)))
        self.no_name(view, "relation", "mixed", catalog)
        self.assertEqual(written_out(self.catalog, view)[3][2][0][0], (("o", ("b", "mixed")),))

    def test_the_first_of_several_that_tell_nothing(self):
        calls = ("add", ("call", "zz", ()), ("add", ("call", "xx", ()), ("next", "ww")))
        self.no_name(("create", "default", ("none", "c"), (calls,)), "relation", "none")
        self.no_name(("create", "default", ("t", "c"), (calls,)), "function", "xx")
        self.no_name(("create", "column", ("t", "c"), ("zz", ("call", "aa", ()))), "domain", "zz")
        self.no_name(("create", "column", ("t", "c"), ("d", ("call", "aa", ()))), "function", "aa")
        self.no_name(("create", "default", ("t", "c"), (("add", ("next", "aa"), ("call", "f", ())),)), "relation", "aa")
        query = (((("o", "zz"), ("p", "yy")), (), (ONE,)),)
        self.no_name(("replace", "view", "none", (1, ("n",), query), "alone"), "relation", "none")
        self.no_name(("replace", "view", "v", (1, ("n",), query), "alone"), "relation", "yy")
        self.no_name(("create", "view", "new", (1, ("n",), query)), "schema", "new", Catalog())
        self.no_name(("create", "domain", "new", ("int", ("call", "aa", ()))), "schema", "new", Catalog())

    def test_a_new_function_that_calls_itself(self):
        body = ("call", "new", ())
        self.no_name(("create", "function", "new", ((), "int", body)), "function", "new")
        full = ("call", ("b", "new"), ())
        self.out(("create", "function", "new", ((), "int", full)), ("create", "function", ("b", "new"), ((), "int", full)))
        self.out(("replace", "function", "f", ((), "int", ("call", "f", ())), "alone"),
                 ("replace", "function", ("b", "f"), ((), "int", ("call", ("b", "f"), ())), "alone"))

    def test_an_item_that_is_created_is_not_found_by_its_own_definition(self):
        self.out(("create", "function", "g", ((), "int", ("call", "f", ()))),
                 ("create", "function", ("b", "g"), ((), "int", ("call", ("b", "f"), ()))))
        catalog = made([("path", ("c", "a"))], self.catalog)
        view = ("create", "view", "v", (2, ("n",), (((("o", "v"),), (), (ONE,)),)))
        self.assertEqual(written_out(catalog, view)[2], ("c", "v"))
        self.assertEqual(written_out(catalog, view)[3][2][0][0], (("o", ("a", "v")),))

    def test_the_rest_of_the_shop(self):
        catalog = shop()
        self.assertEqual(
            written_out(catalog, ("replace", "column", ("orders", "who"), ("word", None), "restrict")),
            ("replace", "column", (("app", "orders"), "who"), (("old", "word"), None), "restrict"),
        )
