"""[70], [73] answers, with [4], [41], [71], [72]."""

import itertools
import unittest

from leancatalog.answers import are_data, columns_of, rows_of, rows_of_union
from leancatalog.changes import run
from leancatalog.errors import Misfit, NoItem, NoName, TooMany
from leancatalog.maps import written
from tests.build import BYNET, GROSS, MONEY, NEEDS, NETS, NONE, ORDERS, TOPS, shop
from tests.drawn import Drawing
from tests.stub import Odd, all_sorts

ONE, TEXT = ("int", 1), ("text", "t")


def of(alias, name):
    return ("of", alias, name)


def nested_loops(catalog, query, data):
    """The set of the rows of a query with full refs, by trying all combinations of the rows of its sources."""
    found = set()
    for sources, conditions, outputs in query:
        for rows in itertools.product(*[rows_at(catalog, ref, data) for _, ref in sources]):
            named = {alias: row for (alias, _), row in zip(sources, rows)}

            def value(side):
                return named[side[1]][side[2]] if side[0] == "of" else side[1]

            if all(value(one) == value(other) for one, other in conditions):
                found.add(tuple(value(output) for output in outputs))
    return found


def rows_at(catalog, ref, data):
    """The rows of a table or a view as dicts from the names of the columns."""
    if ("view",) + ref in catalog:
        _, names, query = catalog[("view",) + ref]
        return [dict(zip(names, row)) for row in nested_loops(catalog, query, data)]
    names = sorted(item[3] for item in catalog.addresses() if item[0] == "column" and item[1:3] == ref)
    return [dict(zip(names, row)) for row in data.get(("table",) + ref, [])]


class ColumnsOf(unittest.TestCase):
    def test_of_a_table_in_ascending_order(self):
        self.assertEqual(columns_of(shop(), ORDERS), ["gross", "id", "net", "who"])
        catalog = run(shop(), [("create", "table", "empty", ())])
        self.assertEqual(columns_of(catalog, ("table", "app", "empty")), [])

    def test_of_a_view_in_its_order(self):
        self.assertEqual(columns_of(shop(), NETS), ["z", "a"])
        self.assertEqual(columns_of(shop(), TOPS), ["n"])

    def test_no_item(self):
        others = [item for item in NEEDS if item[0] not in ("table", "view")]
        for address in others + [NONE, ("view", "app", "orders"), ("table", "app", "nets"), BYNET, GROSS, MONEY]:
            with self.assertRaises(NoItem) as caught:
                columns_of(shop(), address)
            self.assertEqual(caught.exception.address, address)

    def test_returned_lists_are_the_callers(self):
        catalog = shop()
        for address in [ORDERS, NETS]:
            wanted = columns_of(catalog, address)
            columns_of(catalog, address).append("x")
            columns_of(catalog, address).reverse()
            self.assertEqual(columns_of(catalog, address), wanted)


def small():
    """A catalog with tables of two columns (a domain's one, too), of one, and of none."""
    return run(shop(), [
        ("create", "table", "t", ()), ("create", "column", ("t", "n"), ("money", None)),
        ("create", "column", ("t", "m"), (("old", "word"), None)), ("create", "table", "u", ()),
        ("create", "column", ("u", "n"), ("int", ONE)), ("create", "table", "none", ()),
    ])


T, U, EMPTY = [("table", "app", name) for name in ("t", "u", "none")]


class AreData(unittest.TestCase):
    def setUp(self):
        self.catalog = small()

    def right(self, *things):
        for thing in things:
            self.assertIs(are_data(self.catalog, thing), True)

    def wrong(self, *things):
        for thing in things:
            self.assertIs(are_data(self.catalog, thing), False)

    def test_rows_in_the_ascending_order_of_the_columns(self):
        self.right({}, {T: []}, {T: [("a", 1)]}, {T: [("b", 2), ("a", 1)], U: [(3,)]}, {EMPTY: [()]}, {EMPTY: []})
        self.right({ORDERS: [(1, 2, 3, "who")]})
        self.wrong({T: [(1, "a")]}, {T: [("a",)]}, {T: [("a", 1, 1)]}, {T: [()]}, {U: [()]}, {U: [("a",)]}, {EMPTY: [(1,)]})

    def test_values_at_their_bounds_and_beyond(self):
        most = 10 ** 18
        self.right({U: [(most,), (-most,), (0,)]}, {T: [("", 0), ("a" * 20, 0), ("~ \n", 0)]})
        self.wrong({U: [(most + 1,)]}, {U: [(-most - 1,)]}, {T: [("a" * 21, 0)]}, {U: [(0,), (10 ** 39,)]})

    def test_six_rows_and_seven(self):
        self.right({U: [(k,) for k in range(6)]}, {T: [("a", k) for k in range(6)], U: [(k,) for k in range(6)]})
        self.wrong({U: [(k,) for k in range(7)]}, {T: [("a", k) for k in range(7)], U: []})

    def test_rows_alike(self):
        self.wrong({U: [(1,), (1,)]}, {T: [("a", 1), ("b", 1), ("a", 1)]}, {EMPTY: [(), ()]})
        self.right({T: [("a", 1), ("b", 1), ("a", 2)]})

    def test_other_keys(self):
        for key in [NETS, BYNET, GROSS, ("table", "old", "t"), ("table", "app", "new"), "t", ("app", "t"), "table", 0, None, (),
                    ("table", "app", "t", "n"), True, b"t", frozenset()]:
            self.wrong({key: []}, {T: [], key: []})

    def test_values_of_other_sorts(self):
        for value in [None, "1", True, False, (1,), [1], b"1", {}, Odd(), ("int", 1)]:
            self.wrong({U: [(value,)]})
        for value in [None, 1, True, ("a",), ["a"], b"a", {}, Odd(), ("text", "a")]:
            self.wrong({T: [(value, 1)]})

    def test_other_sorts(self):
        for thing in all_sorts() + [Odd()]:
            if repr(thing) not in ("{}", "[]", "()", "(0,)"):
                self.wrong(thing, {U: thing}, {U: [thing]}, {T: [("a", thing)]}, {EMPTY: [thing]})
        self.wrong({U: ((1,),)}, {U: [[1]]}, {U: {(1,): 1}}, {U: None}, [(U, [(1,)])])

    def test_what_is_asked_about_stays(self):
        thing = {U: [(2,), (1,)]}
        are_data(self.catalog, thing)
        self.assertEqual(thing, {U: [(2,), (1,)]})


class RowsOf(unittest.TestCase):
    def setUp(self):
        self.catalog = small()
        self.data = {T: [("b", 2), ("a", 1), ("c", 2)], U: [(2,), (3,)], EMPTY: [()]}

    def rows(self, wanted, *parts):
        before = {table: list(self.data[table]) for table in self.data}
        self.assertEqual(rows_of(self.catalog, parts, self.data), wanted)
        self.assertEqual(self.data, before)

    def test_one_table(self):
        self.rows([("a",), ("b",), ("c",)], ((("o", "t"),), (), (of("o", "m"),)))
        self.rows([(1,), (2,)], ((("o", "t"),), (), (of("o", "n"),)))
        self.rows([(1, "a", 1), (2, "b", 1), (2, "c", 1)], ((("o", "t"),), (), (of("o", "n"), of("o", "m"), ONE)))

    def test_conditions(self):
        self.rows([("b",), ("c",)], ((("o", "t"),), ((of("o", "n"), ("int", 2)),), (of("o", "m"),)))
        self.rows([("b",)], ((("o", "t"),), ((of("o", "n"), ("int", 2)), (of("o", "m"), ("text", "b"))), (of("o", "m"),)))
        self.rows([], ((("o", "t"),), ((of("o", "n"), ("int", 2)), (of("o", "n"), ONE)), (of("o", "m"),)))
        self.rows([("b", 2), ("c", 2)], ((("o", "t"), ("p", "u")), ((of("p", "n"), of("o", "n")),), (of("o", "m"), of("p", "n"))))

    def test_a_table_of_which_nothing_is_named(self):
        self.rows([(1,)], ((("o", "t"),), (), (ONE,)))
        self.rows([("t",)], ((("o", "none"), ("p", "u")), (), (TEXT,)))
        self.data[U] = []
        self.rows([], ((("o", "none"), ("p", "u")), (), (TEXT,)))
        del self.data[EMPTY]
        self.rows([], ((("o", "none"),), (), (ONE,)))

    def test_a_table_that_is_not_in_the_data(self):
        self.data = {}
        self.rows([], ((("o", "t"),), (), (of("o", "m"),)))
        self.rows([], ((("o", "none"),), (), (ONE,)))

    def test_several_parts(self):
        self.rows([(1,), (2,), (3,)], ((("o", "t"),), (), (of("o", "n"),)), ((("o", "u"),), (), (of("o", "n"),)))

    def test_ascending_with_negative_numbers(self):
        self.data[U] = [(10,), (-3,), (9,), (-10,)]
        self.rows([(-10,), (-3,), (9,), (10,)], ((("o", "u"),), (), (of("o", "n"),)))

    def test_views(self):
        catalog = run(self.catalog, [
            ("create", "view", "v", (1, ("x", "y"), (
                ((("o", "t"),), (), (of("o", "n"), of("o", "m"))), ((("o", "u"),), (), (of("o", "n"), TEXT)),
            ))),
        ])
        query = (((("v", "v"), ("u", "u")), ((of("v", "x"), of("u", "n")),), (of("v", "y"),)),)
        self.assertEqual(rows_of(catalog, query, self.data), [("b",), ("c",), ("t",)])

    def test_errors(self):
        for error, fields, query in [
            (NoName, {"space": "relation", "name": "zz"}, (((("o", "zz"), ("p", "aa")), (), (ONE,)),)),
            (NoItem, {"address": ("table", "app", "zz")}, (((("o", ("app", "zz")),), (), (ONE,)),)),
            (Misfit, {"address": None}, (((("o", "t"),), (), (of("o", "zz"),)),)),
        ]:
            with self.assertRaises(error) as caught:
                rows_of(self.catalog, query, {})
            self.assertEqual(vars(caught.exception), fields)
        part = ((("o", "t"), ("p", "t"), ("q", "t")), (), (of("o", "n"),))
        catalog = run(self.catalog, [("create", "view", "v", (1, ("n",), (part,) * 3))])
        for sources, limit in [("vtv", 8), ("ttv", 0)]:
            query = ((tuple(zip("opq", sources)), (), (ONE,)),)
            if limit:
                with self.assertRaises(TooMany) as caught:
                    rows_of(catalog, query, {})
                self.assertEqual(caught.exception.limit, limit)
            else:
                self.assertEqual(rows_of(catalog, query, {}), [])

    def test_against_nested_loops_over_drawn_data(self):
        found, refused = 0, 0
        for seed in range(60):
            drawing = Drawing(seed)
            catalog = drawing.catalog(40, ["table"] * 2 + ["column"] * 5 + ["view"] * 4 + ["domain"])
            sources = drawing.items(catalog, "table", "view", "view") + drawing.items(catalog, "view") * 2
            for _ in range(6 if sources else 0):
                query, data = drawing.query(catalog, sources, 3, 3), drawing.data(catalog)
                self.assertIs(are_data(catalog, data), True)
                try:
                    rows = rows_of(catalog, query, data)
                except TooMany:
                    refused += 1
                    continue
                self.assertEqual(rows, sorted(nested_loops(catalog, query, data)))
                self.assertEqual(rows_of_union(catalog, written(catalog, query), data), rows)
                found += bool(rows)
        self.assertGreater(found, 60)
        self.assertGreater(refused, 5)


class RowsOfUnion(unittest.TestCase):
    def setUp(self):
        self.catalog = small()
        self.data = {T: [("b", 2), ("a", 1), ("c", 2)], U: [(2,), (3,)]}

    def test_no_join(self):
        self.assertEqual(rows_of_union(self.catalog, [], self.data), [])

    def test_constants_and_variables_that_stand_twice(self):
        var = ("var", 0)
        join = (((T, (("n", var),)), (U, (("n", var),))), (var, ONE))
        self.assertEqual(rows_of_union(self.catalog, [join], self.data), [(2, 1)])
        join = (((T, (("m", ("var", 0)), ("n", ("int", 2)))),), (("var", 0),))
        self.assertEqual(rows_of_union(self.catalog, [join], self.data), [("b",), ("c",)])
        both = [join, (((T, (("m", ("var", 0)), ("n", ONE))),), (("var", 0),)), join]
        self.assertEqual(rows_of_union(self.catalog, both, self.data), [("a",), ("b",), ("c",)])

    def test_six_full_tables(self):
        self.data[U] = [(k,) for k in range(6)]
        join = (tuple((U, (("n", ("var", k)),)) for k in range(6)), tuple(("var", k) for k in range(6)))
        self.assertEqual(rows_of_union(self.catalog, [join], self.data), list(itertools.product(range(6), repeat=6)))
        join = (((U, ()),) * 6, (TEXT,))
        self.assertEqual(rows_of_union(self.catalog, [join] * 8, self.data), [("t",)])
