"""[40] Catalog."""

import unittest

from leancatalog.catalogs import Catalog
from leancatalog.errors import NoItem
from leancatalog.words import KINDS
from tests.build import (
    APP, BYNET, CHEAP, CREATE, GROSS, ID, MONEY, NEEDS, NET, NETS, NONE, OFFERS, OLD, ORDERS, SELF, SHOP, SMALL, START,
    TAX, TOLD, TOPS, WHO, WORD, made, shop,
)
from tests.stub import Odd, all_sorts


class Empty(unittest.TestCase):
    def test_no_items_and_no_path(self):
        catalog = Catalog()
        self.assertEqual([len(catalog), catalog.addresses(), catalog.path], [0, [], ()])
        self.assertIs(APP in catalog, False)
        self.assertIsInstance(catalog.path, tuple)

    def test_equal_to_another_one_alone(self):
        self.assertIs(Catalog() == Catalog(), True)
        self.assertIs(Catalog() != Catalog(), False)


class Items(unittest.TestCase):
    def setUp(self):
        self.catalog = shop()

    def test_the_items_are_of_all_kinds(self):
        self.assertEqual({address[0] for address in self.catalog.addresses()}, set(KINDS))

    def test_addresses_ascend(self):
        self.assertEqual(self.catalog.addresses(), sorted(NEEDS))
        self.assertEqual(len(self.catalog), len(NEEDS))

    def test_in(self):
        for address in NEEDS:
            self.assertIs(address in self.catalog, True)
        for address in [NONE, ("view", "app", "orders"), ("table", "old", "orders"), ("default", "app", "orders", "net")]:
            self.assertIs(address in self.catalog, False)
            self.assertIs(address not in self.catalog, True)

    def test_definitions_with_full_refs(self):
        self.assertEqual(self.catalog[APP], ())
        self.assertEqual(self.catalog[ORDERS], ())
        self.assertEqual(self.catalog[NET], (("app", "money"), None))
        self.assertEqual(self.catalog[ID], ("int", None))
        self.assertEqual(self.catalog[WHO], (("old", "word"), None))
        self.assertEqual(self.catalog[MONEY], ("int", ("call", ("app", "small"), (("value",),))))
        self.assertEqual(self.catalog[START], (("add", ("next", ("app", "owned")), ("next", ("app", "ids"))),))
        self.assertEqual(self.catalog[("sequence", "app", "owned")], (("orders", "id"),))
        self.assertEqual(self.catalog[BYNET][0], "orders")
        self.assertEqual(self.catalog[BYNET][1][1], ("call", ("app", "small"), (("column", "id"),)))
        self.assertEqual(self.catalog[TOLD], ("update", ("alike", ("column", "who"), ("text", "ann"))))
        self.assertEqual(self.catalog[TOPS][2][0][0], (("v", ("app", "nets")), ("o", ("app", "orders"))))
        self.assertEqual(self.catalog[NETS][:2], (2, ("z", "a")))

    def test_needs_of_items_of_all_kinds_in_their_order(self):
        for address in NEEDS:
            self.assertEqual(self.catalog.needs(address), NEEDS[address], address)

    def test_offers_of_items_of_all_kinds_in_their_order(self):
        for address in OFFERS:
            self.assertEqual(self.catalog.offers(address), OFFERS[address], address)
        self.assertEqual(set(OFFERS), set(NEEDS))

    def test_no_need_twice(self):
        twice = ("add", ("column", "id"), ("add", ("column", "id"), ("call", "tax", (("call", "tax", (("int", 1),)),))))
        catalog = made([(CREATE, "index", "more", ("orders", (twice, twice)))], self.catalog)
        self.assertEqual(catalog.needs(("index", "app", "more")), [
            (ID, None, "int", "soft"), (TAX, None, (("int",), "int"), "hard"), (APP, None, None, "hard"),
            (ORDERS, None, None, "owned"),
        ])

    def test_leaners_are_the_other_items_with_a_need(self):
        for address in NEEDS:
            wanted = sorted(
                other for other in NEEDS if other != address and address in [need[0] for need in NEEDS[other]]
            )
            self.assertEqual(self.catalog.leaners(address), wanted)

    def test_leaners_without_the_item_itself(self):
        self.assertEqual(self.catalog.leaners(SELF), [])
        self.assertEqual(self.catalog.leaners(TAX), [GROSS, SMALL])
        self.assertEqual(self.catalog.leaners(WORD), [WHO])
        self.assertEqual(self.catalog.leaners(NETS), [TOPS])

    def test_a_view_column_called_plain(self):
        view = (1, ("plain",), (((("o", "orders"),), (), (("of", "o", "id"),)),))
        catalog = made([(CREATE, "view", "v", view), (CREATE, "view", "w", (
            2, ("n",), (((("v", "v"),), (), (("of", "v", "plain"),)),)
        ))], self.catalog)
        self.assertEqual(catalog.offers(("view", "app", "v")), [(None, 1), ("plain", "int")])
        self.assertIn((("view", "app", "v"), "plain", "int", "hard"), catalog.needs(("view", "app", "w")))

    def test_no_item(self):
        for address in [NONE, ("view", "app", "orders"), ("table", "old", "orders"), ("default", "app", "orders", "net"),
                        ("schema", "orders")]:
            for ask in [self.catalog.needs, self.catalog.offers, self.catalog.leaners, lambda item: self.catalog[item]]:
                with self.assertRaises(NoItem) as caught:
                    ask(address)
                self.assertEqual(caught.exception.address, address)

    def test_no_item_where_one_is_gone_or_was_renamed(self):
        for statement, gone in [
            (("drop", "table", "orders", "cascade"), [ORDERS, ID, NET, WHO, GROSS, START, CHEAP, TOLD, BYNET, NETS, TOPS]),
            (("rename", "table", "orders", "bills"), [ORDERS, ID, NET, WHO, GROSS, START, CHEAP, TOLD]),
        ]:
            after = made([statement], self.catalog)
            for address in gone:
                self.assertIs(address in after, False)
                for ask in [after.needs, after.offers, after.leaners, lambda item: after[item]]:
                    with self.assertRaises(NoItem) as caught:
                        ask(address)
                    self.assertEqual(caught.exception.address, address)
                self.assertEqual(self.catalog.needs(address), NEEDS[address])

    def test_returned_lists_are_the_callers(self):
        before = shop()
        for ask in [self.catalog.needs, self.catalog.offers, self.catalog.leaners]:
            for address in NEEDS:
                told = ask(address)
                ask(address).append(NONE)
                ask(address).clear()
                self.assertEqual(ask(address), told)
        self.catalog.addresses().clear()
        self.assertEqual(self.catalog.addresses(), sorted(NEEDS))
        self.assertEqual(self.catalog, before)

    def test_it_is_not_iterated_over(self):
        with self.assertRaises(TypeError):
            list(self.catalog)


class Path(unittest.TestCase):
    def test_as_it_was_set(self):
        for names in [(), ("app",), ("none", "app", "none", "old"), ("app",) * 8]:
            self.assertEqual(made([("path", names)], shop()).path, names)

    def test_it_is_not_set_on_the_object(self):
        with self.assertRaises(AttributeError):
            shop().path = ("app",)


class Equal(unittest.TestCase):
    def test_same_script(self):
        self.assertIs(shop() == shop(), True)
        self.assertIs(shop() != shop(), False)

    def test_items_that_came_in_another_order(self):
        script = [(CREATE, "schema", name, ()) for name in ("app", "old", "a", "b")]
        self.assertIs(made(script) == made(script[::-1]), True)
        at = [statement[2] for statement in SHOP if statement[0] == CREATE].index("ids")
        moved = SHOP[:2] + SHOP[2:3] + SHOP[at + 1:at + 2] + SHOP[3:at + 1] + SHOP[at + 2:]
        self.assertEqual(sorted(map(str, moved)), sorted(map(str, SHOP)))
        self.assertNotEqual(moved, SHOP)
        self.assertIs(made(moved) == shop(), True)

    def test_unequal_by_one_item(self):
        self.assertIs(made([(CREATE, "schema", "new", ())], shop()) == shop(), False)
        self.assertIs(made(SHOP[:-1]) == shop(), False)
        self.assertIs(shop() == made(SHOP[:-1]), False)

    def test_unequal_by_one_definition(self):
        one = made([(CREATE, "check", ("orders", "more"), (("less", ("int", 1), ("int", 2)),))], shop())
        other = made([(CREATE, "check", ("orders", "more"), (("less", ("int", 1), ("int", 3)),))], shop())
        self.assertIs(one == other, False)
        self.assertIs(one != other, True)

    def test_unequal_by_needs_with_equal_definitions(self):
        start = [(CREATE, "schema", "app", ()), ("path", ("app",)), (CREATE, "table", "t", ())]
        view = [(CREATE, "view", "v", (1, ("n",), (((("o", "t"),), (), (("of", "o", "c"),)),)))]
        one = made(start + [(CREATE, "column", ("t", "c"), ("int", None))] + view)
        other = made(start + [(CREATE, "column", ("t", "c"), ("text", None))] + view)
        self.assertEqual(one[("view", "app", "v")], other[("view", "app", "v")])
        self.assertIs(one == other, False)

    def test_unequal_by_path(self):
        for names in [(), ("app",), ("old", "app"), ("app", "old", "app"), ("app", "old", "none")]:
            self.assertIs(made([("path", names)], shop()) == shop(), False)
        self.assertIs(made([("path", ("app", "old"))], shop()) == shop(), True)

    def test_unequal_by_address(self):
        self.assertIs(made([(CREATE, "schema", "a", ())]) == made([(CREATE, "schema", "b", ())]), False)

    def test_equal_to_nothing_else(self):
        for thing in all_sorts() + [{}, {address: shop()[address] for address in shop().addresses()}]:
            self.assertIs(shop() == thing, False)
            self.assertIs(shop() != thing, True)
            self.assertIs(Catalog() == thing, False)
        self.assertIs(shop().__eq__(Odd()), False)

    def test_defaults_checks_and_leaners_of_the_rest(self):
        self.assertEqual(shop().leaners(ID), sorted([GROSS, START, ("sequence", "app", "owned"), BYNET]))
        self.assertEqual(shop().leaners(GROSS), [CHEAP, TOPS])
        self.assertEqual(shop().leaners(SMALL), [CHEAP, MONEY, BYNET])
        self.assertEqual(shop().leaners(OLD), [WORD, TOPS])
