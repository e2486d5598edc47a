"""[41], [42] paths, with [2] on refs and spaces."""

import itertools
import unittest

from leancatalog.catalogs import Catalog
from leancatalog.paths import lookup, turns
from tests.build import CREATE, made

SPACES = ("relation", "domain", "function")

# What an item of each kind is created with; a column stands in each table.
PLAIN = {
    "table": (), "sequence": (None,), "domain": ("int", None), "function": ((), "int", ("int", 1)),
    "view": (1, ("n",), (((("o", ("a", "base")),), (), (("int", 1),)),)),
    "index": ("base", (("int", 1),)),
}


def schemas(names):
    return [(CREATE, "schema", name, ()) for name in names] + [
        (CREATE, "table", (name, "base"), ()) for name in names
    ]


def items(*told):
    return [(CREATE, kind, (schema, name), PLAIN[kind]) for kind, schema, name in told]


def catalog_with(path, names, *told):
    return made(schemas(names) + items(*told) + [("path", tuple(path))])


def space_in(kind):
    return kind if kind in SPACES else "relation"


class Lookup(unittest.TestCase):
    def test_a_schema_is_found_whatever_the_path(self):
        for path in ["", "ab", "b"]:
            catalog = catalog_with(path, "ab")
            self.assertEqual(lookup(catalog, "schema", "a"), ("schema", "a"))
            self.assertEqual(lookup(catalog, "schema", "b"), ("schema", "b"))
            self.assertIsNone(lookup(catalog, "schema", "c"))
            self.assertIsNone(lookup(catalog, "schema", "base"))

    def test_each_kind_in_its_space_alone(self):
        for kind in PLAIN:
            catalog = catalog_with("a", "a", (kind, "a", "x"))
            for space in SPACES:
                wanted = (kind, "a", "x") if space == space_in(kind) else None
                self.assertEqual(lookup(catalog, space, "x"), wanted)
            self.assertIsNone(lookup(catalog, "schema", "x"))
            self.assertIsNone(lookup(catalog, space_in(kind), "y"))

    def test_names_of_three_spaces_do_not_meet(self):
        catalog = catalog_with("a", "a", ("table", "a", "x"), ("domain", "a", "x"), ("function", "a", "x"))
        self.assertEqual([lookup(catalog, space, "x")[0] for space in SPACES], ["table", "domain", "function"])

    def test_the_first_schema_that_has_it(self):
        for kind in PLAIN:
            space = space_in(kind)
            both = [(kind, "a", "x"), (kind, "b", "x")]
            self.assertEqual(lookup(catalog_with("ab", "ab", *both), space, "x"), (kind, "a", "x"))
            self.assertEqual(lookup(catalog_with("ba", "ab", *both), space, "x"), (kind, "b", "x"))
            self.assertEqual(lookup(catalog_with("ab", "ab", both[1]), space, "x"), (kind, "b", "x"))
            self.assertIsNone(lookup(catalog_with("b", "ab", both[0]), space, "x"))

    def test_an_item_of_another_kind_of_the_space_is_found_first(self):
        for one, other in itertools.permutations(("table", "view", "sequence", "index"), 2):
            catalog = catalog_with("ab", "ab", (one, "a", "x"), (other, "b", "x"))
            self.assertEqual(lookup(catalog, "relation", "x"), (one, "a", "x"))

    def test_names_that_are_no_schemas_are_passed_over(self):
        catalog = catalog_with(["none", "a", "base", "b"], "ab", ("table", "b", "x"))
        self.assertEqual(lookup(catalog, "relation", "x"), ("table", "b", "x"))
        self.assertEqual(lookup(catalog, "relation", "base"), ("table", "a", "base"))

    def test_no_path(self):
        self.assertIsNone(lookup(catalog_with("", "a", ("table", "a", "x")), "relation", "x"))
        for space in SPACES + ("schema",):
            self.assertIsNone(lookup(Catalog(), space, "x"))


class Turns(unittest.TestCase):
    def check(self, catalog, wanted, space="relation", name="x"):
        told = turns(catalog, space, name)
        self.assertEqual(told, wanted)
        self.assertIsInstance(told, tuple)
        self.assertIsInstance(told[0], list)
        self.assertEqual(lookup(catalog, space, name), wanted[1])

    def test_found_at_first(self):
        for kind in PLAIN:
            item = (kind, "a", "x")
            self.check(catalog_with("abc", "abc", item), ([], item, None), space_in(kind))

    def test_found_later(self):
        for kind in PLAIN:
            item = (kind, "c", "x")
            self.check(catalog_with("abc", "abc", item), (["a", "b"], item, None), space_in(kind))
            self.check(catalog_with("bca", "abc", item), (["b"], item, None), space_in(kind))

    def test_not_found(self):
        self.check(catalog_with("cab", "abc"), (["c", "a", "b"], None, None))
        self.check(catalog_with("c", "abc", ("table", "a", "x")), (["c"], None, None))
        self.check(catalog_with("", "abc", ("table", "a", "x")), ([], None, None))
        self.check(Catalog(), ([], None, None))

    def test_another_one_behind_it(self):
        for one, other in itertools.product(("table", "view", "sequence", "index"), repeat=2):
            here, behind = (one, "b", "x"), (other, "c", "x")
            self.check(catalog_with("abc", "abc", here, behind), (["a"], here, behind))
            self.check(catalog_with("abc", "abc", here, behind, ("table", "a", "y")), (["a"], here, behind))
        both = [("domain", "a", "x"), ("domain", "c", "x")]
        self.check(catalog_with("abc", "abc", *both), ([], *both), "domain")

    def test_the_second_of_three(self):
        items_there = [("table", name, "x") for name in "abc"]
        self.check(catalog_with("abc", "abc", *items_there), ([], items_there[0], items_there[1]))
        self.check(catalog_with("cab", "abc", *items_there), ([], items_there[2], items_there[0]))

    def test_each_schema_once(self):
        item = ("table", "c", "x")
        self.check(catalog_with("aabbab", "abc", item), (["a", "b"], None, None))
        self.check(catalog_with("babacba", "abc", item), (["b", "a"], item, None))
        self.check(catalog_with("cacbc", "abc", item), ([], item, None))
        self.check(catalog_with("cccb", "abc", item, ("view", "b", "x")), ([], item, ("view", "b", "x")))

    def test_names_that_are_no_schemas(self):
        item = ("table", "b", "x")
        catalog = catalog_with(["none", "a", "base", "b", "x"], "ab", item)
        self.check(catalog, (["a"], item, None))
        self.check(catalog_with(["none", "a", "base", "b", "x"], "ab"), (["a", "b"], None, None))

    def test_other_spaces_do_not_count(self):
        catalog = catalog_with("ab", "ab", ("domain", "a", "x"), ("function", "b", "x"), ("table", "b", "x"))
        self.check(catalog, (["a"], ("table", "b", "x"), None))
        self.check(catalog, ([], ("domain", "a", "x"), None), "domain")
        self.check(catalog, (["a"], ("function", "b", "x"), None), "function")

    def test_returned_lists_are_the_callers(self):
        catalog = catalog_with("ab", "ab")
        turns(catalog, "relation", "x")[0].clear()
        self.assertEqual(turns(catalog, "relation", "x"), (["a", "b"], None, None))

    def test_against_the_words_for_all_small_catalogs(self):
        for here in itertools.product([None, "table", "view"], repeat=3):
            told = [(kind, schema, "x") for kind, schema in zip(here, "abc") if kind]
            for path in itertools.product("abcd", repeat=3):
                there = [item for schema in dict.fromkeys(path) for item in told if item[1] == schema]
                free = []
                for schema in dict.fromkeys(path):
                    if there and schema == there[0][1]:
                        break
                    if schema in "abc":
                        free.append(schema)
                found = (there + [None, None])[:2]
                self.check(catalog_with(path, "abc", *told), (free, found[0], found[1]))
