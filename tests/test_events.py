"""[82] events, with [5] on needs and offers, [40] on the order of needs, [81]."""

import unittest

from leancatalog.catalogs import Catalog
from leancatalog.changes import run
from leancatalog.events import choices, links, ring
from tests.build import NONE, SHOP, made, shop
from tests.pairs import (
    caught_in_rings, catalog_of, choices_told, column, drawn_pair, events_told, function, links_told, ring_told, tower, view,
)

APP, T = ("schema", "app"), ("table", "app", "t")
A, B = [("column", "app", "t", name) for name in "ab"]
V, W = [("view", "app", name) for name in "vw"]
F, G, H = [("function", "app", name) for name in "fgh"]


def hard(address, wanted=None, part=None):
    return (address, part, wanted, "hard")


class Choices(unittest.TestCase):
    def test_of_all_kinds(self):
        catalog = shop()
        self.assertEqual(choices(catalog, catalog), ([], [
            item for item in catalog.addresses() if item[0] not in ("schema", "table", "column", "sequence")
        ]))
        self.assertEqual(choices(catalog, Catalog()), ([], []))
        self.assertEqual(choices(Catalog(), catalog), ([], []))

    def test_unlike_indexes_and_triggers(self):
        other = made([
            ("replace", "function", "small", (("int",), "truth", ("less", ("param", 0), ("int", 3))), "alone"),
            ("replace", "domain", "word", ("text", ("alike", ("value",), ("value",))), "alone"),
            ("drop", "trigger", ("orders", "told"), "alone"), ("drop", "index", "bynet", "alone"),
            ("create", "trigger", ("orders", "told"), ("delete", ("alike", ("column", "who"), ("text", "ann")))),
            ("create", "index", "bynet", ("orders", (("column", "id"),))), ("drop", "view", ("old", "tops"), "alone"),
            ("create", "trigger", ("orders", "other"), ("delete", ("alike", ("column", "who"), ("text", "ann")))),
        ], shop())
        least, free = choices(shop(), other)
        self.assertEqual(least, [("index", "app", "bynet"), ("trigger", "app", "orders", "told")])
        self.assertEqual((least, free), choices_told(shop(), other))
        self.assertIn(("function", "app", "small"), free)
        self.assertNotIn(("view", "old", "tops"), free)
        self.assertNotIn(("trigger", "app", "orders", "other"), free)
        self.assertEqual(choices(other, shop()), (least, free))

    def test_unlike_by_needs_alone(self):
        index = ("create", "index", "i", ("t", (("column", "a"),)))
        one, other = catalog_of(index), catalog_of(column("a", "text"), index)
        self.assertEqual(one["index", "app", "i"], other["index", "app", "i"])
        self.assertEqual(choices(one, other), ([("index", "app", "i")], [("index", "app", "i")]))

    def test_the_path_does_not_matter(self):
        self.assertEqual(choices(shop(), made([("path", ())], shop())), choices(shop(), shop()))


class Links(unittest.TestCase):
    def check(self, one, other, choice, *told):
        self.assertEqual(links(one, other, choice), list(told))
        self.assertEqual(links_told(one, other, choice), list(told))

    def test_none_where_all_stays(self):
        self.check(shop(), shop(), [])

    def test_items_in_one_alone_and_in_other_alone(self):
        one, other = catalog_of(view("v", 1, "t", "a")), catalog_of(function("f", ()))
        self.check(one, other, [])
        one, other = catalog_of(view("v", 1, "t", "a"), view("w", 2, "v", "a")), catalog_of()
        self.check(one, other, [],
                   (("drop", W), ("drop", V), ("old", W, hard(V, ("below", 2)))),
                   (("drop", W), ("drop", V), ("old", W, hard(V, "int", "a"))))
        self.check(other, one, [],
                   (("create", V), ("create", W), ("new", W, hard(V, ("below", 2)))),
                   (("create", V), ("create", W), ("new", W, hard(V, "int", "a"))))

    def test_replaced_items_whose_needs_are_not_met(self):
        one, other = catalog_of(view("v", 1, "t", "a")), catalog_of(column("a", "text"), view("v", 1, "t", "a"))
        self.check(one, other, [],
                   (("replace", A), ("replace", V), ("new", V, hard(A, "text"))),
                   (("replace", V), ("replace", A), ("old", V, hard(A, "int"))))
        self.check(one, other, [V],
                   (("drop", V), ("create", V), ("again", V)),
                   (("drop", V), ("replace", A), ("old", V, hard(A, "int"))),
                   (("replace", A), ("create", V), ("new", V, hard(A, "text"))))

    def test_replaced_items_whose_needs_are_met(self):
        rule = column("a", "int", ("add", ("int", 1), ("int", 1)))
        one, other = catalog_of(view("v", 1, "t", "a")), catalog_of(rule, view("v", 1, "t", "a"))
        self.check(one, other, [])
        ruled = column("b", "int", ("column", "a"))
        one, other = catalog_of(ruled), catalog_of(rule)
        self.check(one, other, [], (("replace", B), ("replace", A), ("old", B, hard(A, "int", "plain"))))
        self.check(other, one, [], (("replace", A), ("replace", B), ("new", B, hard(A, "int", "plain"))))

    def test_layers(self):
        one = catalog_of(view("v", 1, "t", "a"), view("w", 2, "v", "a"))
        other = catalog_of(view("v", 5, "t", "a"), view("w", 6, "v", "a"))
        self.check(one, other, [], (("replace", W), ("replace", V), ("old", W, hard(V, ("below", 2)))))
        self.check(other, one, [], (("replace", V), ("replace", W), ("new", W, hard(V, ("below", 2)))))

    def test_items_that_stay(self):
        one = catalog_of(function("f", ()), function("g", (), ("f", ())))
        need_f = hard(F, ((), "int"))
        self.check(one, one, [F], (("create", F), ("stay", G), ("new", G, need_f)), (("drop", F), ("create", F), ("again", F)),
                   (("stay", G), ("drop", F), ("old", G, need_f)))
        self.check(one, one, [F, G], (("create", F), ("create", G), ("new", G, need_f)), (("drop", F), ("create", F), ("again", F)),
                   (("drop", G), ("create", G), ("again", G)), (("drop", G), ("drop", F), ("old", G, need_f)))
        self.check(one, one, [G], (("drop", G), ("create", G), ("again", G)))

    def test_functions_that_call_themselves(self):
        one, other = catalog_of(function("f", (), ("f", ()))), catalog_of(function("f", ("int",), ("f", ("int",))))
        self.check(one, other, [])
        self.check(one, other, [F], (("drop", F), ("create", F), ("again", F)))
        self.check(one, catalog_of(), [])

    def test_one_name_in_one_space(self):
        def there(*kinds):
            made_of = {
                "view": view("x", 1, "t", "a"), "table": ("create", "table", "x", ()), "sequence": ("create", "sequence", "x", (None,)),
                "index": ("create", "index", "x", ("t", (("int", 1),))), "domain": ("create", "domain", "x", ("int", None)),
                "function": function("x", ()),
            }
            return catalog_of(*[made_of[kind] for kind in kinds])

        def at(kind):
            return (kind, "app", "x")

        for old in ("view", "table", "sequence", "index"):
            for new in ("view", "table", "sequence", "index"):
                expected = [] if old == new else [(("drop", at(old)), ("create", at(new)), ("name", at(old), at(new)))]
                self.check(there(old), there(new), [], *expected)
            self.check(there(old), there("domain", "function"), [])
            self.check(there("domain", "function"), there(old), [])
        old = ("create", "schema", "old", ())
        self.check(run(there("table"), [old]), run(there(), [old, ("create", "table", ("old", "y"), ())]), [])
        self.check(run(there("table"), [old]), run(there(), [old, ("create", "sequence", ("old", "x"), (None,))]), [])

    def test_in_the_order_of_events_and_whys(self):
        one, other = shop(), made(SHOP[:3] + [
            ("create", "table", "orders", ()), ("create", "column", ("orders", "net"), ("text", None)),
            ("create", "sequence", "nets", (None,)), ("create", "view", "bynet", (1, ("z",), (
                ((("o", "orders"),), (), (("of", "o", "net"),)),
            ))),
        ])
        told = links(one, other, [])
        self.assertEqual(told, links_told(one, other, []))
        self.assertIn((("drop", ("index", "app", "bynet")), ("create", ("view", "app", "bynet")), (
            "name", ("index", "app", "bynet"), ("view", "app", "bynet"),
        )), told)
        self.assertEqual(len(told), 27)
        self.assertEqual(links(other, one, []), links_told(other, one, []))

    def test_of_drawn_pairs(self):
        words, kinds = {}, {}
        for seed in range(250):
            pair = drawn_pair(seed, 20)
            if pair is None:
                continue
            drawing, one, other = pair
            for one, other in [(one, other), (other, one)]:
                least, free = choices(one, other)
                self.assertEqual((least, free), choices_told(one, other))
                for choice in [least, free, sorted(set(least) | {item for item in free if drawing.chance(40)})]:
                    told = links(one, other, choice)
                    self.assertEqual(told, links_told(one, other, choice))
                    for event, later, why in told:
                        words[event[0], later[0], why[0]] = words.get((event[0], later[0], why[0]), 0) + 1
                    self.assertLessEqual({event for link in told for event in link[:2]}, events_told(one, other, choice))
                    self.check_ring(one, other, choice, told, kinds)
        self.assertGreater(min(words.values()), 3)
        self.assertEqual(len(words), 12)
        self.assertGreater(kinds[None], 200)
        self.assertGreater(len(kinds), 3)

    def check_ring(self, one, other, choice, told, kinds):
        found = ring(one, other, choice)
        self.assertEqual(found, ring_told(told))
        many = None if found is None else len(found)
        kinds[many] = kinds.get(many, 0) + 1

    def test_what_is_returned_is_the_callers(self):
        one, other = catalog_of(view("v", 1, "t", "a")), catalog_of(column("a", "text"), view("v", 1, "t", "a"))
        before = choices(one, other), links(one, other, [V]), ring(one, other, [])
        choices(one, other)[0].append(NONE)
        choices(one, other)[1].clear()
        links(one, other, [V]).clear()
        ring(one, other, []).clear()
        choice = [V]
        ring(one, other, choice)
        self.assertEqual(choice, [V])
        self.assertEqual((choices(one, other), links(one, other, [V]), ring(one, other, [])), before)


class Rings(unittest.TestCase):
    def check(self, one, other, choice, *events):
        found = ring(one, other, choice)
        self.assertEqual(None if found is None else [link[0] for link in found], list(events) or None)
        self.assertEqual(found, ring_told(links_told(one, other, choice)))
        return found

    def test_none(self):
        self.check(shop(), shop(), [])
        self.check(shop(), Catalog(), [])
        self.check(Catalog(), shop(), [])

    def test_of_two_and_none_with_the_choice(self):
        one, other = catalog_of(view("v", 1, "t", "a")), catalog_of(column("a", "text"), view("v", 1, "t", "a"))
        self.check(one, other, [], ("replace", A), ("replace", V))
        self.check(other, one, [], ("replace", A), ("replace", V))
        self.check(one, other, [V])

    def test_of_three(self):
        one = catalog_of(function("f", ()), function("g", (), ("f", ())))
        self.check(one, one, [F], ("create", F), ("stay", G), ("drop", F))
        self.check(one, one, [F, G])

    def test_the_fewest_links_and_of_these_the_least(self):
        one, other = tower(4, "int"), tower(4, "text")
        va, vb, vd = [("view", "app", "v" + letter) for letter in "abd"]
        aa, ab, ad = [("column", "app", "t", letter) for letter in "abd"]
        self.check(one, other, [], ("replace", aa), ("replace", va))
        self.check(one, other, [va], ("replace", ab), ("replace", vb))
        three = [("view", "app", "v" + letter) for letter in "abc"]
        self.check(one, other, three, ("replace", ad), ("replace", vd))
        self.check(one, other, three + [vd], ("create", va), ("stay", ("view", "app", "wa")), ("drop", va))
        self.check(one, other, three + [vd, ("view", "app", "wa")], ("create", vb), ("stay", ("view", "app", "wb")), ("drop", vb))

    def test_between_two_events_the_first_link(self):
        one = catalog_of(view("v", 1, "t", "a"), view("w", 2, "v", "a"))
        other = catalog_of(column("a", "text"), view("v", 5, "t", "a"), view("w", 6, "v", "a"))
        found = self.check(one, other, [], ("replace", A), ("replace", V))
        self.assertEqual(found[1][2], ("old", V, hard(A, "int")))
        found = self.check(one, other, [V], ("create", V), ("replace", W), ("drop", V))
        self.assertEqual([link[2] for link in found], [
            ("new", W, hard(V, ("below", 6))), ("old", W, hard(V, ("below", 2))), ("again", V),
        ])

    def test_of_functions_of_one_catalog_alone(self):
        loop = run(catalog_of(function("f", ()), function("g", (), ("f", ()))), [
            ("replace", "function", "f", ((), "int", ("call", ("app", "g"), ())), "alone"),
        ])
        self.check(loop, catalog_of(), [], ("drop", F), ("drop", G))
        self.check(catalog_of(), loop, [], ("create", F), ("create", G))
        self.check(loop, loop, [])

    def test_in_catalogs_of_60_items(self):
        one, other = caught_in_rings(26, "int"), caught_in_rings(26, "text")
        for many in range(0, 27, 5):
            choice = [("function", "app", "g" + letter) for letter in "abcdefghijklmnopqrstuvwxyz"[:many]]
            self.assertEqual(ring(one, other, choice)[0][0], ("replace", ("function", "app", "f" + "abcdefghijklmnopqrstuvwxyz"[many])))
