"""[76], [77] plans, with [6], [8], [12], [70] to [75]; [71] once more."""

import itertools
import unittest

from leancatalog.answers import rows_of
from leancatalog.catalogs import Catalog
from leancatalog.changes import done, run
from leancatalog.errors import CatalogError, Misfit, NoItem, NoName, TooMany, Wrong
from leancatalog.maps import is_map, within, written
from leancatalog.plans import Plan, is_judged, judged
from tests.drawn import Drawing
from tests.queries import ONE, TEXT, TWO, T, U, V, of, part, tables, var, view
from tests.stub import Odd, all_sorts, otherwise


def selected(catalog, joins, data):
    """The set of the rows that joins select from data, by trying all combinations of rows for their atoms."""
    found = set()
    for atoms, outputs in joins:
        for rows in itertools.product(*[data.get(table, []) for table, _ in atoms]):
            values, fits = {}, True
            for (table, terms), row in zip(atoms, rows):
                names = sorted(item[3] for item in catalog.addresses() if item[0] == "column" and item[1:3] == table[1:])
                for name, term in terms:
                    wanted = values.setdefault(term, row[names.index(name)]) if term[0] == "var" else term[1]
                    fits = fits and wanted == row[names.index(name)]
            if fits:
                found.add(tuple(values[term] if term[0] == "var" else term[1] for term in outputs))
    return found


def error_of(call, *arguments):
    """The class and the fields of the error of a call, or None."""
    try:
        call(*arguments)
    except CatalogError as error:
        return type(error), vars(error)
    return None


class Making(unittest.TestCase):
    def test_what_it_keeps(self):
        catalog = tables()
        query = (part("o:t p:u", [(of("o", "a"), of("p", "a"))], of("o", "c"), ONE),)
        plan = Plan(catalog, query)
        self.assertEqual(plan.query, query)
        self.assertIs(plan.first, catalog)
        self.assertEqual(plan.joins(catalog), written(catalog, query))

    def test_wrong_arguments(self):
        catalog, query = tables(), (part("o:t", [], ONE),)
        for thing in all_sorts() + [Odd()]:
            for arguments, place in [((thing, query), 0), ((thing, thing), 0), ((catalog, thing), 1)]:
                with self.assertRaises(Wrong) as caught:
                    Plan(*arguments)
                self.assertEqual(caught.exception.place, place)
        for thing in [list(query), (part("o:t", [], ("int", True)),), (list(query[0]),), query * 5, (query[0] + ((),),)]:
            with self.assertRaises(Wrong) as caught:
                Plan(catalog, thing)
            self.assertEqual(caught.exception.place, 1)

    def test_wrong_ahead_of_the_errors_of_reading(self):
        catalog = tables()
        self.assertEqual(error_of(Plan, catalog, (part("o:zz", [], of("o", "z"), ("int", None)),)), (Wrong, {"place": 1}))

    def test_a_query_is_refused_as_elsewhere(self):
        eight = tables(("w", view(1, "x", *[part("o:t p:t q:t", [], ONE)] * 3)), ("s", view(1, "x", part("o:t p:t q:t", [], ONE))))
        for query, error in [
            ((part("o:t p:zz", [], of("o", "zz")), part("o:aa", [], ONE)), (NoName, {"space": "relation", "name": "zz"})),
            (((((("o", ("app", "no")),), (), (of("o", "a"),)),)), (NoItem, {"address": ("table", "app", "no")})),
            ((part("o:w p:w q:w", [], of("o", "zz")),), (Misfit, {"address": None})),
            ((part("o:t", [(of("o", "a"), TEXT)], ONE),), (Misfit, {"address": None})),
            ((part("o:t", [], ONE), part("o:t", [], TEXT)), (Misfit, {"address": None})),
            ((part("o:w p:w q:w", [], of("o", "x")),), (TooMany, {"limit": 8})),
            ((part("o:s p:s q:t", [], of("o", "x")),), (TooMany, {"limit": 6})),
        ]:
            self.assertEqual(error_of(Plan, eight, query), error)
            self.assertEqual(error_of(written, eight, query), error)
            self.assertEqual(error_of(rows_of, eight, query, {}), error)

    def test_towers_of_views_with_very_many_joins(self):
        views = [("wa", view(1, "x", *[part("o:v p:v q:v", [], ONE)] * 4))]
        for layer, name in enumerate("bcdefghi", 2):
            below = views[-1][0]
            views.append(("w" + name, view(layer, "x", *[part(f"o:{below} p:{below} q:{below}", [], ONE)] * 4)))
        catalog = tables(*views)
        query = (part("o:wi p:wi q:wi", [], ONE),) * 4
        for call in [lambda: Plan(catalog, query), lambda: written(catalog, query), lambda: rows_of(catalog, query, {})]:
            self.assertEqual(error_of(call), (TooMany, {"limit": 8}))
        small = Plan(run(catalog, [("replace", "view", "wi", view(9, "x", part("o:v", [], ONE)), "alone")]), query[:1])
        self.assertEqual(error_of(judged, catalog, small), (TooMany, {"limit": 8}))


class Joins(unittest.TestCase):
    def setUp(self):
        self.catalog = tables(("w", view(1, "x y", part("o:t p:u", [(of("o", "a"), of("p", "a"))], of("o", "b"), of("p", "c")))))
        self.plan = Plan(self.catalog, (part("o:w q:v", [(of("q", "a"), TWO)], of("o", "y"), of("o", "x")),))
        self.same = ((T, (("a", var(0)), ("b", var(1)))), (U, (("a", var(0)), ("c", var(2)))), (V, (("a", TWO),)))
        self.assertEqual(self.plan.joins(self.catalog), [(self.same, (var(2), var(1)))])

    def test_what_does_not_concern_them(self):
        later = run(self.catalog, [
            ("drop", "view", "w", "cascade"), ("drop", "column", ("t", "c"), "alone"), ("path", ()),
            ("replace", "column", (("app", "t"), "b"), ("int", ("int", 5)), "alone"),
            ("create", "column", (("app", "u"), "b"), ("int", None)), ("drop", "column", (("app", "u"), "b"), "alone"),
        ])
        self.assertEqual(self.plan.joins(later), self.plan.joins(self.catalog))

    def test_columns_renamed_stand_in_ascending_order_and_variables_are_numbered_anew(self):
        later = run(self.catalog, [("rename", "column", ("t", "a"), "z"), ("rename", "column", ("u", "c"), "aa"),
                                   ("rename", "column", ("u", "a"), "c")])
        self.assertEqual(self.plan.joins(later), [(
            ((T, (("b", var(0)), ("z", var(1)))), (U, (("aa", var(2)), ("c", var(1)))), (V, (("a", TWO),))),
            (var(2), var(0)),
        )])

    def test_columns_that_exchange_their_names(self):
        later = run(self.catalog, [("rename", "column", ("t", "a"), "z"), ("rename", "column", ("t", "b"), "a"),
                                   ("rename", "column", ("t", "z"), "b")])
        self.assertEqual(self.plan.joins(later), [(
            ((T, (("a", var(0)), ("b", var(1)))), (U, (("a", var(1)), ("c", var(2)))), (V, (("a", TWO),))),
            (var(2), var(0)),
        )])

    def test_tables_and_schemas_renamed_and_tables_moved(self):
        later = run(self.catalog, [("create", "schema", "old", ()), ("rename", "table", "u", "x"), ("rename", "table", "t", "u"),
                                   ("move", "table", "v", "old"), ("rename", "schema", "app", "new")])
        tables_now = [("table", "new", "u"), ("table", "new", "x"), ("table", "old", "v")]
        self.assertEqual(self.plan.joins(later), [
            (tuple((table, terms) for table, (_, terms) in zip(tables_now, self.same)), (var(2), var(1))),
        ])

    def broken(self, address, *statements):
        later = run(self.catalog, list(statements))
        self.assertEqual(error_of(self.plan.joins, later), (NoItem, {"address": address}))
        self.assertEqual(judged(later, self.plan), ("broken", address))
        return later

    def test_the_least_of_what_fell(self):
        self.broken(("column", "app", "u", "a"), ("drop", "table", "u", "cascade"))
        self.broken(("column", "app", "t", "b"), ("drop", "column", ("t", "b"), "cascade"))
        self.broken(("column", "app", "t", "b"), ("drop", "table", "u", "cascade"), ("drop", "column", ("t", "b"), "cascade"))
        self.broken(("column", "app", "t", "a"), ("path", ()), ("drop", "schema", "app", "cascade"))

    def test_a_table_without_a_named_column(self):
        plan = Plan(self.catalog, (part("o:v p:t", [], ONE),))
        later = run(self.catalog, [("drop", "column", ("v", "a"), "alone"), ("rename", "table", "v", "zz")])
        self.assertEqual(plan.joins(later), [(((("table", "app", "zz"), ()), (T, ())), (ONE,))])
        gone = done(later, ("drop", "table", "zz", "alone"))
        self.assertEqual(error_of(plan.joins, gone), (NoItem, {"address": V}))
        self.assertEqual(error_of(plan.joins, run(gone, [("drop", "table", "t", "cascade")])), (NoItem, {"address": T}))

    def test_the_address_as_it_was_at_first(self):
        self.broken(("column", "app", "u", "a"), ("rename", "table", "u", "aa"), ("drop", "table", "aa", "cascade"))
        self.broken(("column", "app", "t", "b"), ("rename", "column", ("t", "b"), "z"), ("drop", "column", ("t", "z"), "cascade"))

    def test_a_table_dropped_and_made_again_is_another_one(self):
        self.broken(("column", "app", "v", "a"), ("drop", "table", "v", "cascade"), ("create", "table", "v", ()),
                    ("create", "column", ("v", "a"), ("int", None)))
        self.broken(("column", "app", "v", "a"), ("drop", "column", ("v", "a"), "alone"), ("create", "column", ("v", "a"), ("int", None)))

    def test_another_base_type(self):
        self.broken(("column", "app", "u", "c"), ("replace", "column", ("u", "c"), ("int", None), "cascade"))
        by_domain = [("create", "domain", "d", ("text", None)), ("replace", "column", ("u", "c"), ("d", None), "alone")]
        domain = run(self.catalog, by_domain)
        self.assertEqual(self.plan.joins(domain), self.plan.joins(self.catalog))
        self.broken(("column", "app", "u", "c"), *by_domain, ("replace", "domain", "d", ("int", None), "cascade"))
        again = run(self.catalog, by_domain + [
            ("replace", "domain", "d", ("int", None), "cascade"), ("replace", "column", ("u", "c"), ("text", None), "cascade"),
        ])
        self.assertEqual(self.plan.joins(again), self.plan.joins(self.catalog))

    def test_a_catalog_of_another_line(self):
        self.assertEqual(error_of(self.plan.joins, tables()), (NoItem, {"address": ("column", "app", "t", "a")}))
        self.assertEqual(error_of(self.plan.joins, Catalog()), (NoItem, {"address": ("column", "app", "t", "a")}))

    def test_an_earlier_catalog(self):
        later = run(self.catalog, [("rename", "column", ("t", "a"), "z")])
        plan = Plan(later, (part("o:t", [], of("o", "z")),))
        self.assertEqual(plan.joins(self.catalog), [(((T, (("a", var(0)),)),), (var(0),))])

    def test_joins_that_are_left_out_name_nothing(self):
        never = part("o:t", [(of("o", "a"), ONE), (of("o", "a"), TWO)], of("o", "a"))
        plan = Plan(self.catalog, (never,))
        later = run(self.catalog, [("drop", "table", "t", "cascade")])
        self.assertEqual([plan.joins(self.catalog), plan.joins(later), plan.joins(Catalog())], [[], [], []])
        self.assertEqual(judged(self.catalog, plan), ("fresh", [], []))
        self.assertEqual(judged(later, plan), ("lost",))

    def test_what_is_returned_is_the_callers(self):
        self.plan.joins(self.catalog).clear()
        self.assertEqual(self.plan.joins(self.catalog), [(self.same, (var(2), var(1)))])


class Judged(unittest.TestCase):
    def setUp(self):
        self.all = view(1, "x", part("o:t", [], of("o", "a")))
        self.some = view(1, "x", part("o:t", [(of("o", "b"), ONE)], of("o", "a")))
        self.first = tables(("w", self.all))
        self.query = (part("o:w", [], of("o", "x")),)
        self.plan = Plan(self.first, self.query)

    def after(self, *statements, catalog=None):
        return run(self.first if catalog is None else catalog, list(statements))

    def check(self, catalog, plan):
        """The judgement, held against loops of the test's own."""
        told = judged(catalog, plan)
        self.assertIs(is_judged(catalog, plan, told), True)
        if told[0] in ("fresh", "stale"):
            kept, new = plan.joins(catalog), written(catalog, plan.query)
        if told[0] == "fresh":
            self.assertEqual((within(kept, new), within(new, kept)), (("in", told[1]), ("in", told[2])))
        if told[0] == "stale":
            one, other = (kept, new) if told[3] == "kept" else (new, kept)
            self.assertIn(told[2], selected(catalog, one, told[1]))
            self.assertNotIn(told[2], selected(catalog, other, told[1]))
        return told

    def test_fresh(self):
        self.assertEqual(self.check(self.first, self.plan), ("fresh", [(0, (0,))], [(0, (0,))]))
        renamed = self.after(("rename", "table", "t", "z"), ("rename", "column", ("z", "a"), "zz"))
        self.assertEqual(self.check(renamed, self.plan), ("fresh", [(0, (0,))], [(0, (0,))]))
        twice = view(1, "x", part("o:t", [(of("o", "b"), ONE)], of("o", "a")), part("p:t o:t", [], of("o", "a")))
        self.assertEqual(self.check(self.after(("replace", "view", "w", twice, "alone")), self.plan),
                         ("fresh", [(1, (0, 0))], [(0, (0,)), (0, (1,))]))

    def test_stale_of_both_words(self):
        self.assertEqual(self.check(self.after(("replace", "view", "w", self.some, "alone")), self.plan)[::3], ("stale", "kept"))
        first = tables(("w", self.some))
        later = run(first, [("replace", "view", "w", self.all, "alone")])
        self.assertEqual(self.check(later, Plan(first, self.query))[::3], ("stale", "new"))

    def test_stale_with_unions_without_joins(self):
        never = view(1, "x", part("o:v", [(of("o", "a"), ONE), (of("o", "a"), TWO)], ONE))
        later = self.after(("replace", "view", "w", never, "alone"))
        self.assertEqual(self.check(later, self.plan)[::3], ("stale", "kept"))
        first = tables(("w", never))
        self.assertEqual(self.check(run(first, [("replace", "view", "w", self.all, "alone")]), Plan(first, self.query))[::3],
                         ("stale", "new"))

    def test_stale_only_by_values_that_no_constant_names(self):
        for k in range(4):
            texts = view(1, "x", *[part("o:t", [(of("o", "b"), ("int", number))], of("o", "a")) for number in (k, k + 1, 0, 1)])
            later = self.after(("replace", "view", "w", texts, "alone"))
            self.assertEqual(self.check(later, self.plan)[::3], ("stale", "kept"))
            first = tables(("w", texts))
            self.assertEqual(self.check(run(first, [("replace", "view", "w", self.all, "alone")]), Plan(first, self.query))[::3],
                             ("stale", "new"))

    def test_another_item_found_by_the_path(self):
        first = self.after(("create", "schema", "none", ()))
        plan = Plan(first, (part("o:t", [], of("o", "a")),))
        table = [("create", "table", ("none", "t"), ()), ("create", "column", (("none", "t"), "a"), ("int", None))]
        later = run(first, table)
        self.assertEqual(plan.joins(later), plan.joins(first))
        self.assertEqual(self.check(later, plan)[::3], ("stale", "kept"))
        self.assertEqual(self.check(run(later, [("drop", "table", ("none", "t"), "cascade")]), plan)[0], "fresh")
        self.assertEqual(self.check(run(first, table[:1]), plan), ("lost",))

    def test_lost(self):
        plan = Plan(self.first, (part("o:t", [], of("o", "a")),))
        text = view(1, "x", part("o:t", [], of("o", "c")))
        for catalog, kept in [
            (self.after(("drop", "view", "w", "alone")), self.plan),
            (self.after(("path", ())), self.plan),
            (self.after(("replace", "view", "w", view(1, "y", *self.all[2]), "alone")), self.plan),
            (self.after(("replace", "view", "w", text, "alone")), self.plan),
            (self.after(("rename", "column", ("t", "a"), "z")), plan),
            (self.after(("rename", "table", "t", "z")), plan),
            (self.after(("rename", "table", "t", "z"), ("rename", "table", "u", "t"), ("rename", "column", ("t", "c"), "d"),
                        ("rename", "column", ("t", "a"), "c")), Plan(self.first, (part("o:t", [], of("o", "c")),))),
        ]:
            self.assertEqual(self.check(catalog, kept), ("lost",))
            self.assertIs(is_judged(catalog, kept, ("fresh", [(0, (0,))], [(0, (0,))])), False)
            self.assertIs(is_judged(catalog, kept, ("broken", T)), False)
        full = Plan(self.first, (((("o", ("app", "w")),), (), (of("o", "x"),)),))
        self.assertEqual(self.check(self.after(("path", ())), full)[0], "fresh")
        self.assertEqual(self.check(self.after(("rename", "view", "w", "z")), full), ("lost",))

    def test_broken_ahead_of_lost(self):
        later = self.after(("drop", "column", ("t", "a"), "cascade"))
        self.assertEqual(self.check(later, self.plan), ("broken", ("column", "app", "t", "a")))
        self.assertIs(is_judged(later, self.plan, ("lost",)), False)

    def test_any_address_that_is_broken(self):
        later = self.after(("drop", "table", "t", "cascade"))
        self.assertIs(is_judged(later, self.plan, ("broken", T)), True)
        self.assertIs(is_judged(later, self.plan, ("broken", ("column", "app", "t", "a"))), True)
        for address in [U, ("column", "app", "t", "b"), ("view", "app", "w"), ("schema", "app"), None, [T], Odd(), "table"]:
            self.assertIs(is_judged(later, self.plan, ("broken", address)), False)
        made = run(later, [("create", "table", "t", ())])
        self.assertIs(is_judged(made, self.plan, ("broken", T)), True)
        base = self.after(("replace", "column", ("t", "a"), ("text", None), "cascade"))
        self.assertIs(is_judged(base, self.plan, ("broken", ("column", "app", "t", "a"))), True)
        self.assertIs(is_judged(base, self.plan, ("broken", T)), False)

    def test_a_query_that_can_be_read_and_not_written_out_any_more(self):
        nine = view(1, "x", *[part("o:t p:t q:t", [], of("o", "a"))] * 3)
        seven = view(1, "x", part("o:t p:t q:t", [], of("o", "a")))
        first = self.after(("create", "view", "z", self.all))
        query = (part("o:w p:w q:z", [], of("q", "x")),)
        plan = Plan(first, query)
        for definition, limit in [(nine, 8), (seven, 6)]:
            later = run(first, [("replace", "view", "w", definition, "alone")])
            error = (TooMany, {"limit": limit})
            if limit == 6:
                later = run(later, [("replace", "view", "z", view(1, "x", part("o:t p:t", [], of("o", "a"))), "alone")])
            self.assertEqual(error_of(judged, later, plan), error)
            for thing in all_sorts() + [("lost",), ("broken", T), ("fresh", [], [])]:
                self.assertEqual(error_of(is_judged, later, plan, thing), error)
            text = run(later, [("replace", "view", "z", view(1, "x", part("o:t", [], of("o", "c"))), "alone")])
            self.assertEqual(self.check(text, plan), ("lost",))
            gone = run(text, [("drop", "column", ("t", "a"), "cascade")])
            self.assertEqual(self.check(gone, plan), ("broken", ("column", "app", "t", "a")))

    def test_right_judgements_that_judged_does_not_return(self):
        later = self.after(("replace", "view", "w", self.some, "alone"))
        for data, row, word, right in [
            ({T: [(5, 7, "")]}, (5,), "kept", True), ({T: [(5, 7, "")]}, (5,), "new", False), ({T: [(5, 1, "")]}, (5,), "kept", False),
            ({T: [(5, 7, ""), (6, 1, "x")], U: [(1, "")], V: []}, (5,), "kept", True), ({}, (5,), "kept", False),
            ({T: [(5, 7, ""), (6, 1, "x")]}, (6,), "kept", False), ({T: [(5, 7, "")]}, (7,), "kept", False),
            ({T: [(1, 7, "")]}, (1,), "kept", True), ({T: [(1, 7, "")]}, (True,), "kept", False),
            ({T: [(True, 7, "")]}, (1,), "kept", False), ({T: [(5, 7, "")]}, [5], "kept", False),
            ({T: [(5, 7, "")]}, (5, 5), "kept", False), ({T: [(5, 7)]}, (5,), "kept", False), ({T: ((5, 7, ""),)}, (5,), "kept", False),
            ({T: [(5, 7, "")], ("table", "app", "zz"): []}, (5,), "kept", False), ({T: [(k, 7, "") for k in range(7)]}, (5,), "kept", False),
            ({T: [(5, 7, ""), (5, 7, "")]}, (5,), "kept", False), ({T: [(5, 7, "")]}, (5,), "KEPT", False), ([], (5,), "kept", False),
        ]:
            self.assertIs(is_judged(later, self.plan, ("stale", data, row, word)), right)
        again = view(1, "x", part("o:t", [], of("o", "a")), part("o:t p:t", [(of("p", "b"), ONE)], of("o", "a")))
        twice = self.after(("replace", "view", "w", again, "alone"))
        self.assertEqual(judged(twice, self.plan), ("fresh", [(0, (0,))], [(0, (0,)), (0, (0,))]))
        for kept, new, right in [
            ([(0, (0,))], [(0, (0,)), (0, (0,))], True), ([(0, (0,))], [(0, (0,)), (0, (1,))], False),
            ([(1, (0, 0))], [(0, (0,)), (0, (0,))], False), ([(0, (0,))], [(0, (0,))], False), ([(0, (1,))], [(0, (0,)), (0, (0,))], False),
            ([(2, (0,))], [(0, (0,)), (0, (0,))], False), ([(-1, (0,))], [(0, (0,)), (0, (0,))], False),
            ([], [(0, (0,)), (0, (0,))], False), ([(0, (0,)), (0, (0,))], [(0, (0,))], False),
        ]:
            self.assertIs(is_judged(twice, self.plan, ("fresh", kept, new)), right)
        first = tables(("w", again))
        plan = Plan(first, self.query)
        for kept in itertools.product([(0, (0,)), (1, (0, 0))], [(0, (0,)), (1, (0, 1)), (1, (0, 0)), (0, (1,))]):
            right = kept[0] == (0, (0,)) and kept[1] in [(0, (0,)), (1, (0, 1))]
            self.assertIs(is_judged(first, plan, ("fresh", list(kept), [(0, (0,)), (0, (0,))])), right)

    def test_with_one_thing_put_otherwise_at_any_depth(self):
        cases = [
            (self.first, self.plan), (self.after(("replace", "view", "w", self.some, "alone")), self.plan),
            (self.after(("drop", "table", "t", "cascade")), self.plan), (self.after(("path", ())), self.plan),
        ]
        for catalog, plan in cases:
            right = judged(catalog, plan)
            for thing in list(otherwise(right)) + all_sorts() + [right[:-1], right + right[-1:]]:
                self.assertIs(is_judged(catalog, plan, thing), False)

    def test_the_first_word_that_applies_alone(self):
        right = [
            (self.first, ("fresh", [(0, (0,))], [(0, (0,))])),
            (self.after(("replace", "view", "w", self.some, "alone")), ("stale", {T: [(5, 7, "")]}, (5,), "kept")),
            (self.after(("drop", "table", "t", "cascade")), ("broken", T)), (self.after(("path", ())), ("lost",)),
        ]
        for (catalog, told), (_, other) in itertools.product(right, repeat=2):
            self.assertIs(is_judged(catalog, self.plan, other), told == other)

    def test_what_is_returned_is_the_callers(self):
        later = self.after(("replace", "view", "w", self.some, "alone"))
        told = judged(later, self.plan)
        judged(later, self.plan)[1][T].clear()
        judged(self.first, self.plan)[1].clear()
        self.assertEqual(judged(later, self.plan), told)
        self.assertEqual(judged(self.first, self.plan), ("fresh", [(0, (0,))], [(0, (0,))]))

    def test_of_drawn_plans(self):
        words = {}
        for seed in range(120):
            drawing = Drawing(seed, "abcd")
            catalog = drawing.catalog(25, ["table"] + ["column"] * 4 + ["view"] * 3)
            sources = drawing.items(catalog, "table", "view") + drawing.items(catalog, "view")
            plans = []
            for _ in range(6 if sources else 0):
                query = drawing.query(catalog, [(item[0],) + drawing.one([item[1:], item[2:]]) for item in sources])
                query = tuple((tuple((alias, ref if len(ref) == 2 else ref[0]) for alias, ref in part[0]),) + part[1:] for part in query)
                try:
                    plans.append(Plan(catalog, query))
                except CatalogError:
                    pass
            for _ in range(14):
                statement = drawing.change(catalog)
                if statement is not None and statement[0] in ("replace", "drop") and (statement[0] == "replace" or drawing.chance(20)):
                    statement = statement[:-1] + ("cascade",)
                try:
                    catalog = catalog if statement is None else done(catalog, statement)
                except CatalogError:
                    continue
                for plan in plans:
                    self.check_drawn(drawing, catalog, plan, words)
        self.assertGreater(min(words[word] for word in ("fresh", "kept", "new", "broken", "lost")), 15)

    def check_drawn(self, drawing, catalog, plan, words):
        try:
            told = self.check(catalog, plan)
        except TooMany as error:
            self.assertEqual(error_of(written, catalog, plan.query), (TooMany, {"limit": error.limit}))
            return
        word = told[3] if told[0] == "stale" else told[0]
        words[word] = words.get(word, 0) + 1
        missing = error_of(plan.joins, catalog)
        self.assertEqual(missing, (NoItem, {"address": told[1]}) if told[0] == "broken" else None)
        if word == "fresh":
            kept, new = plan.joins(catalog), written(catalog, plan.query)
            for maps, one, other in [(told[1], kept, new), (told[2], new, kept)]:
                self.assertTrue(all(is_map(other[number], join, found) for (number, found), join in zip(maps, one)))
            for _ in range(3):
                data = drawing.data(catalog)
                self.assertEqual(selected(catalog, kept, data), set(rows_of(catalog, plan.query, data)))


class ExampleOfTheDocument(unittest.TestCase):
    def test_it(self):
        script = [
            ("create", "schema", "app", ()), ("path", ("old", "app")), ("create", "table", "orders", ()),
            ("create", "column", ("orders", "net"), ("int", None)), ("create", "column", ("orders", "who"), ("text", None)),
        ]
        sales = run(Catalog(), script)
        ann = view(1, "net", part("o:orders", [(of("o", "who"), ("text", "ann"))], of("o", "net")))
        first = run(sales, [("create", "view", "bills", ann)])
        plan = Plan(first, (part("b:bills", [], of("b", "net")),))
        every = view(1, "net", part("o:orders", [], of("o", "net")))
        later = run(first, [("replace", "view", "bills", every, "alone")])
        self.assertEqual([judged(first, plan), judged(later, plan)[0], judged(later, plan)[3]],
                         [("fresh", [(0, (0,))], [(0, (0,))]), "stale", "new"])
