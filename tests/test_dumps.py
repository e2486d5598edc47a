"""[80] dumps, with [13], [50], [60], [66]."""

import itertools
import unittest

from leancatalog.catalogs import Catalog
from leancatalog.changes import done, run
from leancatalog.dumps import dump, is_dump
from leancatalog.errors import Ring
from leancatalog.leans import ring
from tests.build import shop
from tests.drawn import Drawing, where_of
from tests.stub import Odd, all_sorts, otherwise

INT = ((), "int", ("int", 1))


def calling(*names):
    """A function without parameters that calls others, all in the schema app."""
    body = ("int", 0)
    for name in names:
        body = ("add", body, ("call", ("app", name), ()))
    return ((), "int", body)


def functions(calls):
    """A Catalog of functions that call others as a dict tells, also in a ring."""
    script = [("create", "schema", "app", ()), ("path", ("app",))]
    script += [("create", "function", name, INT) for name in calls]
    return run(Catalog(), script + [("replace", "function", name, calling(*calls[name]), "alone") for name in calls])


def address_of(statement):
    _, kind, where = statement[:3]
    return (kind, where) if kind == "schema" else (kind, *where) if isinstance(where[0], str) else (kind, *where[0], where[1])


def least_dump(catalog):
    """The dump by the words of [80], found step by step."""
    placed = []
    while len(placed) < len(catalog):
        for address in catalog.addresses():
            needed = [need[0] for need in catalog.needs(address) if need[0] != address]
            if address not in placed and all(other in placed for other in needed):
                placed.append(address)
                break
        else:
            return None
    return [("create", address[0], where_of(address), catalog[address]) for address in placed]


def restored(catalog, statements):
    return run(Catalog(), statements + [("path", catalog.path)])


class Dumps(unittest.TestCase):
    def check(self, catalog):
        told = dump(catalog)
        self.assertEqual(told, least_dump(catalog))
        self.assertIs(is_dump(catalog, told), True)
        self.assertEqual(restored(catalog, told), catalog)
        return told

    def test_of_no_items(self):
        self.assertEqual(self.check(Catalog()), [])
        self.assertEqual(self.check(done(Catalog(), ("path", ("a", "b")))), [])
        self.assertIs(is_dump(Catalog(), [("path", ())]), False)

    def test_of_all_kinds(self):
        catalog = shop()
        told = self.check(catalog)
        self.assertEqual(sorted(map(address_of, told)), catalog.addresses())
        self.assertEqual([statement[:3] for statement in told[:5]], [
            ("create", "schema", "app"), ("create", "function", ("app", "self")), ("create", "function", ("app", "tax")),
            ("create", "function", ("app", "small")), ("create", "domain", ("app", "money")),
        ])

    def test_of_renamed_and_moved_items(self):
        catalog = shop()
        for statement in [
            ("rename", "table", "orders", "aaa"), ("rename", "column", ("aaa", "id"), "z"), ("rename", "function", "tax", "zzz"),
            ("move", "table", "aaa", "old"), ("rename", "schema", "old", "new"), ("rename", "domain", "money", "aa"),
            ("move", "function", "small", "new"), ("path", ("new", "none")), ("drop", "index", "bynet", "alone"),
        ]:
            catalog = done(catalog, statement)
            self.check(catalog)

    def test_the_least_address_that_can_stand_there(self):
        catalog = functions({"a": "c", "b": "", "c": "", "d": "a"})
        self.assertEqual([address_of(statement)[-1] for statement in self.check(catalog)], ["app", "b", "c", "a", "d"])

    def test_a_function_that_calls_itself_is_no_ring(self):
        catalog = functions({"a": "ab", "b": "b"})
        self.assertEqual([address_of(statement)[-1] for statement in self.check(catalog)], ["app", "b", "a"])

    def test_rings(self):
        for calls, functions_told in [
            ({"a": "b", "b": "a"}, "ab"), ({"a": "b", "b": "c", "c": "a", "d": "e", "e": "d"}, "de"),
            ({"a": "ab", "b": "c", "c": "b", "d": "c"}, "bc"), ({"d": "c", "c": "d", "b": "a", "a": "b"}, "ab"),
            ({"a": "b", "b": "c", "c": "a"}, "abc"), ({"a": "c", "c": "b", "b": "a"}, "acb"),
        ]:
            catalog = functions(calls)
            with self.assertRaises(Ring) as caught:
                dump(catalog)
            self.assertEqual(caught.exception.functions, [("function", "app", name) for name in functions_told])
            self.assertEqual(caught.exception.functions, ring(catalog))
            statements = [("create", item[0], where_of(item), catalog[item]) for item in catalog.addresses()]
            for ordered in itertools.islice(itertools.permutations(statements), 200):
                self.assertIs(is_dump(catalog, list(ordered)), False)

    def test_of_drawn_catalogs(self):
        rings = 0
        for seed in range(60):
            drawing = Drawing(seed)
            catalog = drawing.catalog(40)
            for _ in range(8):
                statement = drawing.change(catalog)
                try:
                    catalog = catalog if statement is None else done(catalog, statement)
                except ValueError:
                    pass
            if least_dump(catalog) is None:
                rings += 1
                with self.assertRaises(Ring) as caught:
                    dump(catalog)
                self.assertEqual(caught.exception.functions, ring(catalog))
            else:
                self.check(catalog)
        self.assertLess(rings, 30)


class Others(unittest.TestCase):
    def test_all_orders_of_a_small_catalog(self):
        catalog = run(Catalog(), [
            ("create", "schema", "app", ()), ("create", "table", ("app", "t"), ()), ("create", "column", (("app", "t"), "a"), ("int", None)),
            ("create", "check", (("app", "t"), "c"), (("less", ("column", "a"), ("int", 1)),)), ("create", "sequence", ("app", "q"), (("t", "a"),)),
            ("create", "default", (("app", "t"), "a"), (("next", ("app", "q")),)),
        ])
        told = dump(catalog)
        many = 0
        for ordered in itertools.permutations(told):
            places = {address_of(statement): at for at, statement in enumerate(ordered)}
            right = all(places[need[0]] < places[item] for item in places for need in catalog.needs(item))
            self.assertIs(is_dump(catalog, list(ordered)), right)
            if right:
                many += 1
                self.assertEqual(restored(catalog, list(ordered)), catalog)
        self.assertEqual(many, 3)

    def test_out_twice_elsewhere_and_beside(self):
        catalog = shop()
        told = dump(catalog)
        for at, statement in enumerate(told):
            self.assertIs(is_dump(catalog, told[:at] + told[at + 1:]), False)
            self.assertIs(is_dump(catalog, told + [statement]), False)
            self.assertIs(is_dump(catalog, told[:at] + [told[at - 1]] + told[at + 1:]), False)
            elsewhere = [statement] + told[:at] + told[at + 1:]
            needed = [need for need in catalog.needs(address_of(statement)) if need[0] != address_of(statement)]
            self.assertIs(is_dump(catalog, elsewhere), not needed)
        self.assertIs(is_dump(catalog, told + [("path", catalog.path)]), False)
        self.assertIs(is_dump(catalog, [("path", catalog.path)] + told), False)
        self.assertIs(is_dump(catalog, [("path", catalog.path)] + told[1:]), False)
        self.assertIs(is_dump(catalog, told + [("drop", "index", ("app", "bynet"), "alone"), told[-1]]), False)

    def test_a_name_for_a_ref(self):
        catalog = shop()
        told = dump(catalog)
        for at, (word, kind, where, definition) in enumerate(told):
            if kind != "schema":
                short = where[1] if isinstance(where[0], str) else (where[0][1], where[1])
                self.assertIs(is_dump(catalog, told[:at] + [(word, kind, short, definition)] + told[at + 1:]), False)
        views = [statement for statement in told if statement[1] == "view"]
        layer, names, query = views[0][3]
        short = tuple((tuple((alias, ref[1]) for alias, ref in part[0]),) + part[1:] for part in query)
        self.assertIs(is_dump(catalog, [
            statement[:3] + ((layer, names, short),) if statement == views[0] else statement for statement in told
        ]), False)

    def test_definitions_of_others(self):
        catalog = run(Catalog(), [("create", "schema", "app", ()), ("create", "domain", ("app", "d"), ("int", None))])
        told = dump(catalog)
        self.assertIs(is_dump(catalog, told), True)
        self.assertIs(is_dump(catalog, told[:1] + [told[1][:3] + (("text", None),)]), False)
        self.assertIs(is_dump(catalog, [("create", "schema", "old", ()), told[1]]), False)

    def test_with_one_thing_put_otherwise_at_any_depth(self):
        catalog = shop()
        told = dump(catalog)
        for thing in list(otherwise(told)) + all_sorts() + [tuple(told), [told], Odd(), [Odd()] * len(told)]:
            self.assertIs(is_dump(catalog, thing), False)

    def test_true_for_one(self):
        one = ("less", ("value",), ("int", 1))
        catalog = run(Catalog(), [("create", "schema", "app", ()), ("create", "domain", ("app", "d"), ("int", one))])
        told = dump(catalog)
        wrong = told[:1] + [told[1][:3] + (("int", ("less", ("value",), ("int", True))),)]
        self.assertEqual(wrong, told)
        self.assertIs(is_dump(catalog, wrong), False)

    def test_what_is_returned_is_the_callers(self):
        catalog = shop()
        told = dump(catalog)
        dump(catalog).clear()
        self.assertEqual(dump(catalog), told)
