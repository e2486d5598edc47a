"""[62] to [66] changes, with [5] to [10], [51], [52], [60], [61]; the examples behind [54] and [66]."""

import unittest

from leancatalog.catalogs import Catalog, identities_of
from leancatalog.changes import done, effects, run
from leancatalog.errors import CatalogError, Hangs, Misfit, Needs, NoItem, NoName, Stopped, Taken, TooMany, Wrong
from leancatalog.falls import blocked, falls, order, taken
from leancatalog.leans import is_ring, ring
from tests.build import (
    APP, BYNET, CHEAP, CREATE, GROSS, ID, IDS, INT_TO_INT, INT_TO_TRUTH, MONEY, NEEDS, NET, NETS, NONE, OLD, ORDERS,
    OWNED, SELF, SHOP, SMALL, START, TAX, TOLD, TOPS, WHO, WORD, shop,
)
from tests.drawn import where_of
from tests.stub import Odd, all_sorts

ONE, TEXT = ("int", 1), ("text", "t")
YES = ("equal", ONE, ONE)
ORDERS_REF = ("app", "orders")
WAYS = ("alone", "restrict", "cascade")


def of(alias, name):
    return ("of", alias, name)


def call(name, *args):
    return ("call", ("app", name), args)


def drop(address, way="cascade"):
    return ("drop", address[0], where_of(address), way)


def replace(address, definition, way="cascade"):
    return ("replace", address[0], where_of(address), definition, way)


def rename(address, name):
    return ("rename", address[0], where_of(address), name)


def move(address, schema):
    return ("move", address[0], where_of(address), schema)


def create(address, definition):
    return ("create", address[0], where_of(address), definition)


def of_orders(*outputs):
    return (((("o", ORDERS_REF),), (), outputs),)


class Changing(unittest.TestCase):
    def setUp(self):
        self.catalog = shop()

    def raises(self, error, fields, statement, catalog=None):
        catalog = self.catalog if catalog is None else catalog
        before = (catalog.addresses(), [(catalog[item], catalog.needs(item)) for item in catalog.addresses()], catalog.path)
        for call_it in [done, effects]:
            with self.assertRaises(error) as caught:
                call_it(catalog, statement)
            self.assertEqual(vars(caught.exception), fields)
        after = (catalog.addresses(), [(catalog[item], catalog.needs(item)) for item in catalog.addresses()], catalog.path)
        self.assertEqual(before, after)

    def no_name(self, space, name, statement, catalog=None):
        self.raises(NoName, {"space": space, "name": name}, statement, catalog)

    def taken(self, address, statement, catalog=None):
        self.raises(Taken, {"address": address}, statement, catalog)

    def no_item(self, address, statement):
        self.raises(NoItem, {"address": address}, statement)

    def needs(self, address, other, statement, catalog=None):
        self.raises(Needs, {"address": address, "other": other}, statement, catalog)

    def misfit(self, address, statement):
        self.raises(Misfit, {"address": address}, statement)

    def hangs(self, address, other, statement, catalog=None):
        self.raises(Hangs, {"address": address, "other": other}, statement, catalog)

    def changes(self, statement, fallen=(), anew=(), moved=(), catalog=None):
        """Does a statement that has these effects and no other ones, and returns the Catalog behind it."""
        catalog = self.catalog if catalog is None else catalog
        self.assertEqual(effects(catalog, statement), (sorted(fallen), sorted(anew), sorted(moved)))
        after = done(catalog, statement)
        new = dict(moved)
        created = [item for item in after.addresses() if item not in catalog and item not in new.values()]
        self.assertEqual(len(created), 1 if statement[0] == "create" else 0)
        self.assertEqual(
            after.addresses(),
            sorted(created + [new.get(item, item) for item in catalog.addresses() if item not in fallen]),
        )
        return after


class Creating(Changing):
    def test_an_item_of_each_kind(self):
        self.assertEqual(run(Catalog(), SHOP), self.catalog)
        for address in NEEDS:
            self.assertEqual(run(Catalog(), SHOP).needs(address), NEEDS[address])

    def test_effects(self):
        after = self.changes(("create", "domain", "new", ("text", None)))
        self.assertEqual(after[("domain", "app", "new")], ("text", None))
        self.assertNotIn(("domain", "app", "new"), self.catalog)

    def test_the_elder_one_stays(self):
        before = shop()
        done(self.catalog, ("create", "table", "new", ()))
        self.assertEqual(self.catalog, before)
        self.assertEqual(self.catalog.leaners(APP), before.leaners(APP))

    def test_a_name_that_is_taken_by_the_same_kind(self):
        for address in NEEDS:
            self.taken(address, create(address, self.catalog[address]))

    def test_a_name_that_is_taken_by_another_kind_of_the_same_space(self):
        definitions = {
            "table": (), "sequence": (None,), "index": ("orders", (ONE,)), "view": (1, ("n",), of_orders(ONE)),
        }
        for kind in definitions:
            for address in [ORDERS, IDS, BYNET, NETS]:
                self.taken(address, create((kind,) + address[1:], definitions[kind]))

    def test_equal_names_of_other_spaces(self):
        for address, definition in [
            (("domain", "app", "orders"), ("int", None)), (("function", "app", "orders"), ((), "int", ONE)),
            (("table", "old", "orders"), ()), (("table", "app", "money"), ()), (("schema", "orders"), ()),
            (("check", "app", "orders", "id"), (YES,)), (("trigger", "app", "orders", "id"), ("insert", YES)),
            (("trigger", "app", "orders", "cheap"), ("insert", YES)), (("default", "app", "orders", "net"), (ONE,)),
        ]:
            self.assertIn(address, self.changes(create(address, definition)))

    def test_no_name_ahead_of_all(self):
        self.no_name("relation", "none", ("create", "column", ("none", "id"), ("none", None)))
        self.no_name("domain", "none", ("create", "column", ("orders", "id"), ("none", None)))
        self.no_name("schema", "orders", ("create", "table", "orders", ()), done(self.catalog, ("path", ("none",))))

    def test_taken_ahead_of_what_reading_raises(self):
        self.taken(ID, create(ID, (("none", "none"), None)))
        self.taken(CHEAP, create(CHEAP, (ONE,)))

    def test_errors_of_reading(self):
        self.needs(NONE[:1] + ("none", "x"), ("schema", "none"), ("create", "table", ("none", "x"), ()))
        self.needs(("column", "app", "none", "c"), NONE, ("create", "column", (("app", "none"), "c"), ("int", None)))
        self.needs(("check", "app", "orders", "c"), ("column", "app", "orders", "x"),
                   ("create", "check", ("orders", "c"), (("less", ("column", "x"), TEXT),)))
        self.misfit(("check", "app", "orders", "c"), ("create", "check", ("orders", "c"), (ONE,)))
        self.misfit(("view", "app", "v"), ("create", "view", "v", (2, ("n",), (((("o", "nets"),), (), (ONE,)),))))
        self.misfit(("view", "app", "v"), ("create", "view", "v", (9, ("n",), (((("o", ("app", "v")),), (), (ONE,)),))))

    def filled(self, many):
        names = ["t" + one + other for one in "abcdefghijkl" for other in "abcdefghijkl"]
        statements = [("create", "table", names[at], ()) for at in range(many - len(self.catalog))]
        return run(self.catalog, statements)

    def test_a_catalog_of_119_and_120_items(self):
        some = self.filled(119)
        self.assertEqual(len(some), 119)
        full = done(some, ("create", "table", "new", ()))
        self.assertEqual(len(full), 120)
        limit = {"limit": 120}
        self.raises(TooMany, limit, ("create", "table", "newer", ()), full)
        self.raises(TooMany, limit, ("create", "schema", "newer", ()), full)
        self.raises(TooMany, limit, ("create", "check", ("orders", "x"), (ONE,)), full)
        self.raises(TooMany, limit, ("create", "table", ("none", "x"), ()), full)
        self.taken(("table", "app", "new"), ("create", "table", "new", ()), full)
        self.no_name("relation", "none", ("create", "check", ("none", "x"), (ONE,)), full)
        fewer = done(full, ("drop", "table", "new", "alone"))
        self.assertEqual(len(done(fewer, ("create", "table", "newer", ()))), 120)
        self.assertEqual(len(done(full, ("rename", "table", "new", "newer"))), 120)


class NotThere(Changing):
    def test_no_item(self):
        for kind in ["domain", "sequence", "table", "view", "function", "index"]:
            address = (kind, "app", "none")
            self.no_item(address, drop(address, "alone"))
            self.no_item(address, rename(address, "new"))
        for kind in ["column", "default", "check", "trigger"]:
            for address in [(kind, "app", "orders", "none"), (kind, "app", "none", "none"), (kind, "none", "none", "none")]:
                self.no_item(address, drop(address, "alone"))
        self.no_item(("schema", "none"), ("rename", "schema", "none", "app"))
        self.no_item(("schema", "none"), ("drop", "schema", "none", "cascade"))
        self.no_item(("default", "app", "orders", "net"), drop(("default", "app", "orders", "net")))

    def test_ahead_of_the_other_errors(self):
        self.no_item(("domain", "old", "none"), ("replace", "domain", ("old", "none"), ("int", ONE), "alone"))
        self.no_item(("domain", "none", "none"), ("replace", "domain", ("none", "none"), ("int", None), "alone"))
        self.no_item(("table", "app", "none"), ("rename", "table", ("app", "none"), "orders"))
        self.no_item(("table", "app", "none"), ("move", "table", ("app", "none"), "none"))

    def test_another_kind_of_item_there(self):
        self.no_item(("view", "app", "orders"), drop(("view", "app", "orders")))
        self.no_item(("table", "app", "nets"), rename(("table", "app", "nets"), "new"))

    def test_no_name_ahead_of_it(self):
        self.no_name("relation", "none", ("drop", "table", "none", "alone"))
        self.no_name("function", "none", ("replace", "domain", ("old", "none"), ("int", ("call", "none", ())), "alone"))


class Dropping(Changing):
    def test_what_falls_with_each_item(self):
        for address in NEEDS:
            fallen = [address]
            for _ in NEEDS:
                fallen += [
                    other for other in NEEDS if other not in fallen and set(fallen) & {need[0] for need in NEEDS[other]}
                ]
            self.changes(drop(address), fallen)
            self.assertEqual(falls(self.catalog, address), sorted(fallen))

    def test_the_three_ways(self):
        for address in NEEDS:
            for way in WAYS:
                other = blocked(self.catalog, address, way)
                if other is not None:
                    self.hangs(address, other, drop(address, way))
                else:
                    self.changes(drop(address, way), falls(self.catalog, address))

    def test_alone(self):
        self.changes(drop(TOPS, "alone"), [TOPS])
        self.changes(drop(SELF, "alone"), [SELF])
        self.hangs(WHO, TOLD, drop(WHO, "alone"))
        self.hangs(APP, CHEAP, drop(APP, "alone"))

    def test_restrict_takes_along_soft_and_owned_leans(self):
        catalog = run(self.catalog, [drop(NETS), drop(GROSS)])
        self.changes(drop(ORDERS, "restrict"), [ORDERS, ID, NET, WHO, START, TOLD, BYNET, OWNED], catalog=catalog)
        self.changes(drop(ID, "restrict"), [ID, START, BYNET, OWNED], catalog=catalog)
        self.hangs(ID, CHEAP, drop(ID, "restrict"))
        self.hangs(GROSS, TOPS, drop(GROSS, "restrict"))

    def test_a_sequence_that_a_default_needs(self):
        self.hangs(OWNED, START, drop(OWNED, "restrict"))
        self.changes(drop(OWNED), [OWNED, START])

    def test_functions_in_a_ring(self):
        catalog = rings()
        f, g, h = [("function", "app", name) for name in "fgh"]
        self.hangs(f, g, drop(f, "restrict"), catalog)
        self.changes(drop(f), [f, g, h], catalog=catalog)
        self.changes(drop(h), [h], catalog=catalog)

    def test_the_elder_one_stays(self):
        before = shop()
        for address in NEEDS:
            done(self.catalog, drop(address))
        self.assertEqual(self.catalog, before)


def rings():
    """A Catalog with functions f and g that call one another, and h that calls g."""
    no = ((), "int", ONE)
    return run(Catalog(), [
        ("create", "schema", "app", ()), ("path", ("app",)), ("create", "function", "f", no),
        ("create", "function", "g", ((), "int", ("call", "f", ()))),
        ("create", "function", "h", ((), "int", ("add", ("call", "g", ()), ONE))),
        ("replace", "function", "f", ((), "int", ("call", "g", ())), "alone"),
    ])


class Replacing(Changing):
    def three_ways(self, address, definition, fallen=(), anew=(), catalog=None):
        """Replaces an item in all ways, and returns the Catalog behind "cascade"."""
        catalog = self.catalog if catalog is None else catalog
        for way, barring in [("alone", [*fallen, *anew]), ("restrict", fallen)]:
            if barring:
                self.hangs(address, min(barring), replace(address, definition, way), catalog)
            else:
                after = self.changes(replace(address, definition, way), fallen, anew, catalog=catalog)
                self.assertEqual(after, done(catalog, replace(address, definition)))
        after = self.changes(replace(address, definition), fallen, anew, catalog=catalog)
        self.assertEqual(after[address], definition)
        return after

    def test_by_the_same_definition(self):
        for address in [MONEY, WORD, IDS, OWNED, ID, NET, WHO, GROSS, START, CHEAP, NETS, TOPS, TAX, SMALL, SELF]:
            self.assertEqual(self.three_ways(address, self.catalog[address]), self.catalog)

    def test_what_nobody_notices(self):
        self.three_ways(TAX, (("int",), "int", ("param", 0)))
        self.three_ways(MONEY, ("int", None))
        self.three_ways(IDS, (("orders", "net"),))
        self.three_ways(START, (ONE,))
        self.three_ways(CHEAP, (YES,))
        self.three_ways(NETS, (1,) + self.catalog[NETS][1:])
        self.three_ways(TOPS, (9, ("x", "y"), of_orders(ONE, TEXT)))
        self.three_ways(GROSS, ("int", ("int", 7)))
        self.three_ways(ID, (("app", "money"), None))

    def test_a_domain_of_another_base(self):
        after = self.three_ways(MONEY, ("text", None), [GROSS, CHEAP, TOPS, NETS], [NET, BYNET])
        self.assertEqual(after.needs(NET), [(MONEY, None, "text", "hard"), (ORDERS, None, None, "owned")])
        self.assertEqual(after.offers(NET), [(None, "text"), ("plain", "text")])
        self.assertIn((NET, None, "text", "soft"), after.needs(BYNET))

    def test_a_column_of_another_base_through_several_steps(self):
        script = [
            ("create", "table", "t", ()), ("create", "column", ("t", "c"), ("int", None)),
            ("create", "column", ("t", "d"), ("text", None)),
            ("create", "view", "v", (1, ("n", "m"), (((("o", "t"),), (), (of("o", "c"), of("o", "d"))),))),
            ("create", "view", "w", (2, ("n", "m"), (((("o", "v"),), (), (of("o", "n"), of("o", "m"))),))),
            ("create", "view", "x", (3, ("n",), (((("o", "w"),), ((of("o", "m"), TEXT),), (of("o", "m"),)),))),
            ("create", "view", "y", (4, ("n",), (((("o", "w"),), ((of("o", "n"), ONE),), (of("o", "m"),)),))),
            ("create", "view", "z", (5, ("n",), (((("o", "y"),), (), (of("o", "n"),)),))),
            ("create", "index", "i", ("t", (("column", "c"),))),
            ("create", "check", ("t", "k"), (("less", ("column", "c"), ONE),)),
            ("create", "default", ("t", "c"), (ONE,)),
        ]
        catalog = run(self.catalog, script)
        v, w, x, y, z = [("view", "app", name) for name in "vwxyz"]
        column = ("column", "app", "t", "c")
        after = self.three_ways(column, ("text", None), [
            y, z, ("check", "app", "t", "k"), ("default", "app", "t", "c"),
        ], [v, w, ("index", "app", "i")], catalog)
        self.assertEqual(after.offers(w), [(None, 2), ("m", "text"), ("n", "text")])
        self.assertEqual(after.needs(x), catalog.needs(x))

    def test_a_column_that_is_not_plain_any_more(self):
        self.three_ways(ID, ("int", ONE), [GROSS, CHEAP, TOPS])
        self.three_ways(GROSS, ("int", None))

    def test_a_column_with_a_rule_of_another_base(self):
        after = self.three_ways(GROSS, ("text", TEXT), [CHEAP, TOPS])
        self.assertEqual(after.offers(GROSS), [(None, "text")])

    def test_a_function_with_other_parameters_or_another_result(self):
        fallen = [SMALL, GROSS, MONEY, NET, CHEAP, BYNET, NETS, TOPS]
        self.three_ways(TAX, (("int", "int"), "int", ONE), fallen)
        self.three_ways(TAX, (("text",), "int", ONE), fallen)
        self.three_ways(TAX, (("int",), "text", TEXT), fallen)
        self.three_ways(TAX, ((), "int", ONE), fallen)
        self.three_ways(SMALL, (("int",), "int", ONE), [MONEY, NET, GROSS, CHEAP, BYNET, NETS, TOPS])

    def test_an_index_of_a_function_with_another_result_is_made_anew(self):
        catalog = run(self.catalog, [("create", "index", "x", ("orders", (call("tax", ("column", "id")), TEXT)))])
        f = (("int",), "truth", YES)
        index = ("index", "app", "x")
        fallen = [SMALL, GROSS, MONEY, NET, CHEAP, BYNET, NETS, TOPS]
        after = self.three_ways(TAX, f, fallen, [index], catalog)
        self.assertIn((TAX, None, INT_TO_TRUTH, "hard"), after.needs(index))
        self.assertIn((TAX, None, INT_TO_INT, "hard"), catalog.needs(index))

    def test_a_view_of_a_greater_layer(self):
        definition = self.catalog[NETS]
        self.three_ways(NETS, (3,) + definition[1:], [TOPS])
        self.three_ways(NETS, (9,) + definition[1:], [TOPS])
        self.three_ways(NETS, (1,) + definition[1:])

    def test_a_view_with_other_columns(self):
        query = self.catalog[NETS][2]
        self.three_ways(NETS, (2, ("z", "b"), query), [TOPS])
        self.three_ways(NETS, (2, ("a", "z"), query), [TOPS])
        self.three_ways(NETS, (2, ("z", "a"), of_orders(of("o", "id"), of("o", "who"))))
        after = self.three_ways(NETS, (2, ("z", "a", "q"), of_orders(of("o", "id"), ONE, TEXT)), [], [TOPS])
        self.assertEqual(after.offers(TOPS), [(None, 3), ("n", "int")])
        self.three_ways(NETS, (2, ("z", "a"), of_orders(TEXT, TEXT)), [TOPS])

    def test_owners_of_a_sequence(self):
        after = self.three_ways(OWNED, (None,))
        self.assertEqual(after.needs(OWNED), [(APP, None, None, "hard")])
        after = self.three_ways(IDS, (("orders", "gross"),))
        self.assertEqual(after.needs(IDS), [(GROSS, None, None, "owned"), (APP, None, None, "hard")])

    def test_errors_of_reading(self):
        self.needs(NET, ("domain", "app", "none"), replace(NET, (("app", "none"), None)))
        for way in WAYS:
            self.misfit(NET, replace(NET, ("int", TEXT), way))
            self.misfit(TAX, replace(TAX, (("int",), "truth", ("and", call("small", ONE), TEXT)), way))
        self.misfit(NET, replace(NET, ("int", ("column", "net"))))
        self.misfit(NET, replace(NET, ("int", ("column", "gross"))))
        self.misfit(NETS, replace(NETS, (9, ("n",), (((("o", ("app", "nets")),), (), (ONE,)),))))
        self.needs(OWNED, ("column", "app", "orders", "none"), replace(OWNED, (("orders", "none"),)))
        self.misfit(TAX, replace(TAX, (("int",), "int", TEXT)))

    def test_a_new_definition_that_needs_what_would_fall(self):
        through = (4, ("n",), (((("v", ("old", "tops")),), (), (of("v", "n"),)),))
        for way in WAYS:
            self.needs(NETS, TOPS, replace(NETS, through, way))
            self.needs(TAX, SMALL, replace(TAX, ((), "truth", call("small", ONE)), way))
            self.needs(TAX, SMALL, replace(TAX, ((), "truth", ("and", call("small", ONE), call("tax"))), way))

    def test_the_least_of_several_that_it_needs_and_that_would_fall(self):
        one = (("int",), "int", call("tax", ("param", 0)))
        catalog = run(self.catalog, [("create", "function", name, one) for name in ("z", "c", "k")])
        body = ("add", call("z", ONE), call("k", ONE))
        for way in WAYS:
            self.needs(TAX, ("function", "app", "k"), replace(TAX, ((), "int", body), way), catalog)
        self.three_ways(TAX, (("int",), "int", body), [], [], catalog)

    def test_functions_in_a_ring(self):
        catalog = rings()
        f, g, h = [("function", "app", name) for name in "fgh"]
        self.three_ways(f, ((), "int", ONE), catalog=catalog)
        self.three_ways(f, ((), "int", ("add", ("call", ("app", "g"), ()), ("call", ("app", "h"), ()))), catalog=catalog)
        self.three_ways(f, ((), "text", TEXT), [g, h], catalog=catalog)
        self.three_ways(f, (("int",), "int", ONE), [g, h], catalog=catalog)
        for way in WAYS:
            self.needs(f, g, replace(f, (("int",), "int", ("call", ("app", "g"), ())), way), catalog)
            self.needs(g, h, replace(g, ((), "truth", ("less", ONE, ("call", ("app", "h"), ()))), way), catalog)

    def test_a_ring_that_falls_with_a_function_that_it_calls(self):
        catalog = run(rings(), [
            ("create", "function", "base", ((), "int", ONE)),
            ("replace", "function", "g", ((), "int", ("add", ("call", "f", ()), ("call", "base", ()))), "alone"),
        ])
        base, f, g, h = [("function", "app", name) for name in ("base", "f", "g", "h")]
        self.assertEqual(ring(catalog), [f, g])
        self.three_ways(base, ((), "text", TEXT), [f, g, h], catalog=catalog)
        self.three_ways(base, ((), "int", ("call", ("app", "f"), ())), catalog=catalog)
        self.three_ways(base, ((), "text", ("join", TEXT, ("call", ("app", "base"), ()))), [f, g, h], catalog=catalog)
        self.assertEqual(ring(done(catalog, replace(base, ((), "int", ("call", ("app", "f"), ()))))), [f, g])

    def test_a_function_that_calls_itself(self):
        own = (("text",), "int", ("call", ("app", "self"), (TEXT,)))
        self.three_ways(SELF, own)
        self.assertEqual(done(self.catalog, replace(SELF, own)).needs(SELF)[0], (SELF, None, own[:2], "hard"))
        self.misfit(SELF, replace(SELF, (("text",), "int", ("call", ("app", "self"), (TEXT, TEXT)))))

    def test_the_replaced_item_keeps_its_place(self):
        after = done(self.catalog, replace(NET, ("text", None)))
        self.assertEqual(after[NET], ("text", None))
        self.assertEqual(self.catalog[NET], (("app", "money"), None))
        self.assertEqual(self.catalog, shop())


class Renaming(Changing):
    def test_taken(self):
        for address, name, other in [
            (APP, "old", OLD), (ORDERS, "ids", IDS), (ORDERS, "bynet", BYNET), (NETS, "orders", ORDERS), (IDS, "nets", NETS),
            (BYNET, "owned", OWNED), (TAX, "small", SMALL), (ID, "net", NET),
        ]:
            self.taken(other, rename(address, name))

    def test_to_its_own_name(self):
        for address in NEEDS:
            if address[0] != "default":
                self.taken(address, rename(address, address[-1]))

    def test_names_of_other_spaces(self):
        for address, name in [
            (MONEY, "orders"), (TAX, "money"), (ORDERS, "tax"), (TOPS, "nets"), (CHEAP, "told"), (TOLD, "id"), (ID, "cheap"),
            (OLD, "orders"),
        ]:
            new = address[:-1] + (name,)
            self.assertIn(new, done(self.catalog, rename(address, name)))

    def test_a_schema(self):
        new = {item: item[:1] + ("new",) + item[2:] for item in NEEDS if item[1] == "app"}
        after = self.changes(rename(APP, "new"), moved=new.items())
        self.assertEqual(after.path, ("app", "old"))
        self.assertEqual(after.needs(("domain", "new", "money")), [
            (("function", "new", "small"), None, INT_TO_TRUTH, "hard"), (("schema", "new"), None, None, "hard"),
        ])
        self.assertEqual(after[TOPS][2][0][0], (("v", ("new", "nets")), ("o", ("new", "orders"))))
        self.assertEqual(after.leaners(("table", "new", "orders")), sorted(
            new.get(item, item) for item in self.catalog.leaners(ORDERS)
        ))
        self.assertEqual(after[("sequence", "new", "owned")], (("orders", "id"),))

    def test_a_table(self):
        new = {item: item[:2] + ("bills",) + item[3:] for item in NEEDS if item[1:3] == ("app", "orders")}
        after = self.changes(rename(ORDERS, "bills"), moved=new.items())
        self.assertEqual(after[BYNET], ("bills", self.catalog[BYNET][1]))
        self.assertEqual(after[OWNED], (("bills", "id"),))
        self.assertEqual(after.needs(OWNED)[0], (("column", "app", "bills", "id"), None, None, "owned"))
        self.assertEqual(after[NETS][2][1][0], (("o", ("app", "bills")), ("p", ("app", "bills"))))
        self.assertEqual(after[("check", "app", "bills", "cheap")], self.catalog[CHEAP])

    def test_a_column(self):
        bills = ("column", "app", "orders", "sum")
        after = self.changes(rename(NET, "sum"), moved=[(NET, bills)])
        self.assertEqual(after[GROSS][1][1], ("column", "sum"))
        self.assertEqual(after[BYNET][1][0], ("column", "sum"))
        self.assertEqual(after[CHEAP][0][2], ("less", ("column", "sum"), ("column", "gross")))
        self.assertEqual(after[NETS][2][0], (
            (("o", ORDERS_REF),), ((of("o", "who"), ("text", "ann")),), (of("o", "sum"), ("text", "x")),
        ))
        self.assertEqual(after[NETS][1], ("z", "a"))
        self.assertEqual(after.leaners(bills), self.catalog.leaners(NET))
        after = self.changes(rename(ID, "key"), moved=[
            (ID, ("column", "app", "orders", "key")), (START, ("default", "app", "orders", "key")),
        ])
        self.assertEqual(after[OWNED], (("orders", "key"),))
        self.assertEqual(after[("default", "app", "orders", "key")], self.catalog[START])
        self.assertEqual(after[BYNET], ("orders", (("column", "net"), call("small", ("column", "key")))))
        self.assertEqual(after[GROSS], ("int", ("add", ("column", "net"), call("tax", ("column", "key")))))
        after = done(self.catalog, rename(WHO, "whom"))
        self.assertEqual(after[TOLD], ("update", ("alike", ("column", "whom"), ("text", "ann"))))
        self.assertEqual(after[NETS][2][0][1], ((of("o", "whom"), ("text", "ann")),))
        self.assertEqual(after[NETS][2][1][2], (ONE, of("p", "whom")))
        after = done(self.catalog, rename(GROSS, "total"))
        self.assertEqual(after[TOPS][2][0][1], ((of("v", "z"), of("o", "total")),))

    def test_columns_of_one_name_in_other_tables_and_views_stay(self):
        catalog = run(self.catalog, [
            ("create", "table", "bills", ()), ("create", "column", ("bills", "id"), ("int", None)),
            ("create", "index", "byid", ("bills", (("column", "id"),))),
            ("create", "check", ("bills", "k"), (("less", ("column", "id"), ONE),)),
            ("create", "view", "v", (1, ("id",), (((("o", "orders"), ("b", "bills")), ((of("o", "id"), of("b", "id")),),
                                                   (of("b", "id"),)),))),
            ("create", "view", "w", (2, ("id",), (((("v", "v"), ("orders", "orders")), ((of("v", "id"), ONE),),
                                                   (of("orders", "id"),)),))),
        ])
        after = done(catalog, rename(ID, "key"))
        self.assertEqual(after[("index", "app", "byid")], catalog[("index", "app", "byid")])
        self.assertEqual(after[("check", "app", "bills", "k")], catalog[("check", "app", "bills", "k")])
        self.assertEqual(after[("view", "app", "v")], (1, ("id",), (
            ((("o", ORDERS_REF), ("b", ("app", "bills"))), ((of("o", "key"), of("b", "id")),), (of("b", "id"),)),
        )))
        self.assertEqual(after[("view", "app", "w")], (2, ("id",), (
            ((("v", ("app", "v")), ("orders", ORDERS_REF)), ((of("v", "id"), ONE),), (of("orders", "key"),)),
        )))

    def test_what_only_refs_tell(self):
        after = self.changes(rename(NETS, "sums"), moved=[(NETS, ("view", "app", "sums"))])
        self.assertEqual(after[TOPS][2][0][0], (("v", ("app", "sums")), ("o", ORDERS_REF)))
        after = self.changes(rename(TAX, "fee"), moved=[(TAX, ("function", "app", "fee"))])
        self.assertEqual(after[SMALL][2][1], call("fee", ("param", 0)))
        self.assertEqual(after[GROSS][1][2], call("fee", ("column", "id")))
        after = self.changes(rename(SELF, "own"), moved=[(SELF, ("function", "app", "own"))])
        own = ("function", "app", "own")
        self.assertEqual(after[own][2][:2], ("call", ("app", "own")))
        self.assertEqual(after.needs(own)[0], (own, None, (("int", "text"), "text"), "hard"))
        after = self.changes(rename(WORD, "term"), moved=[(WORD, ("domain", "old", "term"))])
        self.assertEqual(after[WHO], (("old", "term"), None))
        after = self.changes(rename(IDS, "keys"), moved=[(IDS, ("sequence", "app", "keys"))])
        self.assertEqual(after[START], (("add", ("next", ("app", "owned")), ("next", ("app", "keys"))),))
        self.changes(rename(BYNET, "x"), moved=[(BYNET, ("index", "app", "x"))])
        self.changes(rename(CHEAP, "x"), moved=[(CHEAP, ("check", "app", "orders", "x"))])
        self.changes(rename(TOLD, "x"), moved=[(TOLD, ("trigger", "app", "orders", "x"))])

    def test_a_domain_or_a_function_does_not_take_along_what_lies_in_a_table_of_its_name(self):
        catalog = run(self.catalog, [
            ("create", "domain", "orders", ("int", None)), ("create", "function", "orders", ((), "int", ONE)),
            ("create", "check", ("orders", "id"), (YES,)), ("create", "column", ("orders", "x"), ("orders", ("call", "orders", ()))),
        ])
        domain, function = ("domain", "app", "orders"), ("function", "app", "orders")
        after = self.changes(rename(domain, "new"), moved=[(domain, ("domain", "app", "new"))], catalog=catalog)
        self.assertEqual(after[("column", "app", "orders", "x")], (("app", "new"), call("orders")))
        after = self.changes(rename(function, "new"), moved=[(function, ("function", "app", "new"))], catalog=catalog)
        self.assertEqual(after[("column", "app", "orders", "x")], (("app", "orders"), call("new")))
        check = ("check", "app", "orders", "id")
        self.changes(rename(check, "new"), moved=[(check, ("check", "app", "orders", "new"))], catalog=catalog)

    def test_there_and_back(self):
        for address in NEEDS:
            if address[0] != "default":
                new = address[:-1] + ("new",)
                after = done(self.catalog, rename(address, "new"))
                self.assertNotEqual(after, self.catalog)
                self.assertEqual(done(after, rename(new, address[-1])), self.catalog)


class Moving(Changing):
    def test_a_schema_that_is_not_there(self):
        for address in [MONEY, IDS, ORDERS, NETS, TAX, OWNED]:
            self.no_name("schema", "none", move(address, "none"))

    def test_to_its_own_schema(self):
        for address in [MONEY, IDS, NETS, TAX, SELF]:
            self.taken(address, move(address, "app"))
        self.taken(BYNET, move(ORDERS, "app"))
        self.needs(OWNED, ID, move(OWNED, "app"))
        catalog = run(self.catalog, [drop(BYNET), ("create", "table", "bills", ())])
        self.taken(OWNED, move(ORDERS, "app"), catalog)
        self.taken(("table", "app", "bills"), move(("table", "app", "bills"), "app"), catalog)

    def test_a_sequence_with_an_owner(self):
        self.needs(OWNED, ID, move(OWNED, "old"))
        self.no_name("schema", "none", move(OWNED, "none"))
        catalog = run(self.catalog, [("create", "table", ("old", "owned"), ())])
        self.needs(OWNED, ID, move(OWNED, "old"), catalog)

    def test_taken(self):
        catalog = run(self.catalog, [
            ("create", "domain", ("old", "money"), ("int", None)), ("create", "sequence", ("old", "ids"), (None,)),
            ("create", "function", ("old", "tax"), ((), "int", ONE)), ("create", "table", ("old", "nets"), ()),
        ])
        self.taken(("domain", "old", "money"), move(MONEY, "old"), catalog)
        self.taken(("sequence", "old", "ids"), move(IDS, "old"), catalog)
        self.taken(("function", "old", "tax"), move(TAX, "old"), catalog)
        self.taken(("table", "old", "nets"), move(NETS, "old"), catalog)
        self.assertIn(("table", "old", "orders"), done(catalog, move(ORDERS, "old")))

    def test_a_table_whose_index_or_sequence_meets_a_name_there(self):
        for kind, name, definition in [
            ("table", "bynet", ()), ("sequence", "bynet", (None,)), ("table", "owned", ()), ("sequence", "owned", (None,)),
            ("table", "orders", ()), ("sequence", "orders", (None,)),
        ]:
            catalog = run(self.catalog, [("create", kind, ("old", name), definition)])
            self.taken((kind, "old", name), move(ORDERS, "old"), catalog)
        catalog = run(self.catalog, [
            ("create", kind, ("old", name), definition)
            for kind, name, definition in [("table", "owned", ()), ("sequence", "orders", (None,)), ("table", "bynet", ())]
        ])
        self.taken(("sequence", "old", "orders"), move(ORDERS, "old"), catalog)
        self.taken(("table", "old", "bynet"), move(ORDERS, "old"), done(catalog, drop(("sequence", "old", "orders"))))

    def test_other_names_do_not_meet(self):
        catalog = run(self.catalog, [
            ("create", "table", ("old", "ids"), ()), ("create", "table", ("old", "id"), ()),
            ("create", "domain", ("old", "orders"), ("int", None)), ("create", "function", ("old", "bynet"), ((), "int", ONE)),
        ])
        self.assertIn(("index", "old", "bynet"), done(catalog, move(ORDERS, "old")))

    def test_a_table_takes_along_what_lies_in_it_its_indexes_and_sequences(self):
        along = [BYNET, OWNED] + [item for item in NEEDS if item[1:3] == ("app", "orders")]
        new = {item: item[:1] + ("old",) + item[2:] for item in along}
        after = self.changes(move(ORDERS, "old"), moved=new.items())
        self.assertEqual(after.needs(("table", "old", "orders")), [(OLD, None, None, "hard")])
        self.assertEqual(after.needs(("index", "old", "bynet")), [
            (("column", "old", "orders", "id"), None, "int", "soft"),
            (("column", "old", "orders", "net"), None, "int", "soft"), (SMALL, None, INT_TO_TRUTH, "hard"),
            (OLD, None, None, "hard"), (("table", "old", "orders"), None, None, "owned"),
        ])
        self.assertEqual(after.needs(("sequence", "old", "owned")), [
            (("column", "old", "orders", "id"), None, None, "owned"), (OLD, None, None, "hard"),
        ])
        self.assertEqual(after[("default", "old", "orders", "id")],
                         (("add", ("next", ("old", "owned")), ("next", ("app", "ids"))),))
        self.assertEqual(after[("column", "old", "orders", "net")], (("app", "money"), None))
        self.assertEqual(after[NETS][2][1][0], (("o", ("old", "orders")), ("p", ("old", "orders"))))
        self.assertEqual(after.leaners(("schema", "old")), sorted([
            WORD, TOPS, ("table", "old", "orders"), ("index", "old", "bynet"), ("sequence", "old", "owned"),
        ]))
        self.assertEqual(done(after, move(("table", "old", "orders"), "app")), self.catalog)

    def test_indexes_and_sequences_of_other_tables_stay(self):
        catalog = run(self.catalog, [
            ("create", "schema", "new", ()), ("create", "table", "bills", ()), ("create", "column", ("bills", "id"), ("int", None)),
            ("create", "index", "x", ("bills", (("column", "id"),))), ("create", "sequence", "y", (("bills", "id"),)),
            ("create", "table", ("old", "orders"), ()), ("create", "index", ("old", "z"), ("orders", (ONE,))),
        ])
        table, index, sequence = ("table", "app", "bills"), ("index", "app", "x"), ("sequence", "app", "y")
        self.changes(move(table, "new"), moved=[
            (item, item[:1] + ("new",) + item[2:]) for item in [table, index, sequence, ("column", "app", "bills", "id")]
        ], catalog=catalog)
        catalog = run(catalog, [
            ("create", "table", ("old", "bills"), ()), ("create", "column", (("old", "bills"), "id"), ("int", None)),
            ("create", "index", ("old", "far"), ("bills", (ONE,))), ("create", "sequence", ("old", "off"), (("bills", "id"),)),
        ])
        self.changes(move(table, "new"), moved=[
            (item, item[:1] + ("new",) + item[2:]) for item in [table, index, sequence, ("column", "app", "bills", "id")]
        ], catalog=catalog)

    def test_what_has_nothing_along(self):
        for address in [MONEY, IDS, NETS, TAX, SELF, SMALL]:
            new = address[:1] + ("old",) + address[2:]
            after = self.changes(move(address, "old"), moved=[(address, new)])
            self.assertIn((OLD, None, None, "hard"), after.needs(new))
            self.assertNotIn(APP, [need[0] for need in after.needs(new)])
            self.assertEqual(done(after, move(new, "app")), self.catalog)
        self.assertEqual(done(self.catalog, move(NETS, "old"))[TOPS][2][0][0], (("v", ("old", "nets")), ("o", ORDERS_REF)))
        self.assertEqual(done(self.catalog, move(MONEY, "old"))[NET], (("old", "money"), None))
        own = ("function", "old", "self")
        self.assertEqual(done(self.catalog, move(SELF, "old")).needs(own), [
            (own, None, (("int", "text"), "text"), "hard"), (OLD, None, None, "hard"),
        ])


class Path(Changing):
    def test_it_is_set(self):
        for names in [(), ("old",), ("none", "old", "none", "app", "old", "old", "a", "b")]:
            after = self.changes(("path", names))
            self.assertEqual(after.path, names)
            self.assertEqual(after.addresses(), self.catalog.addresses())
        self.assertEqual(self.catalog.path, ("app", "old"))

    def test_names_are_looked_for_by_it(self):
        catalog = done(self.catalog, ("path", ("old",)))
        self.no_name("relation", "orders", ("drop", "table", "orders", "alone"), catalog)
        self.assertIn(("table", "old", "t"), done(catalog, ("create", "table", "t", ())))


class Identity(Changing):
    def test_equal_whatever_became_of_the_identities(self):
        dropped = done(self.catalog, drop(TOPS, "alone"))
        self.assertEqual(done(dropped, create(TOPS, self.catalog[TOPS])), self.catalog)

    def test_it_is_kept_by_all_but_a_drop(self):
        before = identities_of(self.catalog)
        self.assertEqual(len(set(before.values())), len(before))
        self.assertIs(identities_of(done(self.catalog, replace(NET, ("text", None))))[NET], before[NET])
        after = identities_of(done(self.catalog, replace(MONEY, ("text", None))))
        self.assertEqual({item: after[item] for item in after}, {item: before[item] for item in after})
        after = identities_of(done(self.catalog, rename(ORDERS, "bills")))
        self.assertIs(after[("column", "app", "bills", "net")], before[NET])
        after = identities_of(done(self.catalog, move(ORDERS, "old")))
        self.assertIs(after[("index", "old", "bynet")], before[BYNET])
        self.assertEqual(identities_of(done(self.catalog, ("path", ()))), before)
        again = identities_of(run(self.catalog, [drop(TOPS, "alone"), create(TOPS, self.catalog[TOPS])]))
        self.assertEqual([item for item in again if again[item] != before[item]], [TOPS])


class Arguments(Changing):
    def wrong(self, place, function, *args):
        with self.assertRaises(Wrong) as caught:
            function(*args)
        self.assertEqual(caught.exception.place, place)

    def test_what_is_no_catalog(self):
        for thing in all_sorts() + [Odd(), SHOP, Catalog]:
            for function in [done, effects]:
                self.wrong(0, function, thing, ("path", ()))
                self.wrong(0, function, thing, thing)
            self.wrong(0, run, thing, [])
            self.wrong(0, run, thing, thing)

    def test_what_is_no_statement(self):
        for thing in all_sorts() + [Odd(), ("drop", "table", "none"), ["path", ()], ("path", ("A",)), SHOP]:
            for function in [done, effects]:
                self.wrong(1, function, self.catalog, thing)

    def test_what_is_no_list_of_statements(self):
        for thing in all_sorts() + [Odd(), tuple(SHOP), ("path", ()), {0: ("path", ())}]:
            if not isinstance(thing, list) or len(thing) > 200:
                self.wrong(1, run, Catalog(), thing)

    def test_lists_of_200_and_201_statements(self):
        self.assertEqual(run(Catalog(), [("path", ("a",))] * 199 + [("path", ("b",))]).path, ("b",))
        self.wrong(1, run, Catalog(), [("path", ())] * 201)
        self.wrong(1, run, Catalog(), [None] * 201)

    def test_what_is_passed_stays(self):
        script = list(SHOP)
        run(Catalog(), script)
        self.assertEqual(script, SHOP)


class Running(Changing):
    def stops(self, at, statements, catalog=None):
        with self.assertRaises(Stopped) as caught:
            run(Catalog() if catalog is None else catalog, statements)
        self.assertEqual(caught.exception.at, at)

    def test_no_statement(self):
        self.assertEqual(run(self.catalog, []), self.catalog)

    def test_as_done_one_after_another(self):
        catalog = Catalog()
        for at, statement in enumerate(SHOP):
            catalog = done(catalog, statement)
            self.assertEqual(run(Catalog(), SHOP[:at + 1]), catalog)

    def test_what_is_refused(self):
        bad = ("create", "table", ("none", "t"), ())
        self.stops(0, [bad])
        self.stops(0, [bad] + SHOP)
        self.stops(4, SHOP[:4] + [bad] + SHOP[4:])
        self.stops(len(SHOP), SHOP + [bad])
        self.stops(1, [SHOP[0], SHOP[0], bad])
        self.stops(len(SHOP) + 1, SHOP + [drop(TOPS), drop(TOPS), bad])

    def test_what_is_no_statement(self):
        for thing in all_sorts() + [Odd(), ["path", ()], ("drop", "table", "t")]:
            self.stops(0, [thing])
            self.stops(0, [thing, thing] + SHOP)
            self.stops(3, SHOP[:3] + [thing] + SHOP[3:])
            self.stops(len(SHOP), SHOP + [thing])

    def test_a_stop_is_a_catalog_error(self):
        with self.assertRaises(CatalogError):
            run(Catalog(), [None])


class RealRings(unittest.TestCase):
    def test_rings_of_functions_that_statements_make(self):
        f, g, h = [("function", "app", name) for name in "fgh"]
        self.assertEqual(ring(rings()), [f, g])
        self.assertIs(is_ring(rings(), [g, f]), True)
        self.assertIs(is_ring(rings(), [f, h]), False)
        self.assertEqual(order(rings(), f), ("ring", [f, g]))
        self.assertEqual(order(rings(), h), ("order", [h]))
        self.assertIsNone(ring(shop()))


NETS_OF_DOC = (1, ("n",), (((("o", "orders"),), (), (("of", "o", "net"),)),))
SCRIPT_OF_DOC = [
    ("create", "schema", "app", ()), ("path", ("old", "app")), ("create", "table", "orders", ()),
    ("create", "column", ("orders", "net"), ("int", None)),
]


def catalog_of_doc():
    """The catalog of the document's examples."""
    return run(Catalog(), SCRIPT_OF_DOC + [
        ("create", "index", "bynet", ("orders", (("column", "net"),))), ("create", "view", "nets", NETS_OF_DOC),
    ])


class ExamplesOfTheDocument(unittest.TestCase):
    def test_falls(self):
        catalog, net = catalog_of_doc(), ("column", "app", "orders", "net")
        self.assertEqual(
            [taken(catalog, net), blocked(catalog, net, "restrict"), order(catalog, net)[1][:1]],
            [[("column", "app", "orders", "net"), ("index", "app", "bynet")], ("view", "app", "nets"),
             [("index", "app", "bynet")]],
        )

    def test_changes(self):
        catalog = catalog_of_doc()
        self.assertEqual(
            effects(catalog, ("replace", "column", ("orders", "net"), ("text", None), "restrict")),
            ([], [("index", "app", "bynet"), ("view", "app", "nets")], []),
        )
        self.assertEqual(
            done(catalog, ("rename", "table", "orders", "bills"))[("view", "app", "nets")],
            (1, ("n",), (((("o", ("app", "bills")),), (), (("of", "o", "net"),)),)),
        )
        with self.assertRaises(Hangs) as caught:
            done(catalog, ("drop", "column", ("orders", "net"), "restrict"))
        self.assertEqual([caught.exception.address, caught.exception.other],
                         [("column", "app", "orders", "net"), ("view", "app", "nets")])
