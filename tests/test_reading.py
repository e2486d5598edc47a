"""[43] reading, with [3], [4], [5]."""

import unittest

from leancatalog.catalogs import Catalog
from leancatalog.errors import Misfit, Needs
from leancatalog.paths import turns
from leancatalog.reading import faults, read
from tests.build import (
    APP, BYNET, CHEAP, CREATE, GROSS, ID, IDS, INT_TO_INT, MONEY, NEEDS, NET, NETS, NONE, OLD, ORDERS, OWNED, SELF,
    SMALL, START, TAX, TOLD, TOPS, WHO, WORD, made, shop,
)
from tests.stub import order_of

ONE, YES, TEXT = ("int", 1), ("equal", ("int", 1), ("int", 1)), ("text", "t")
ORDERS_REF = ("app", "orders")


def column(name):
    return ("column", name)


def of(alias, name):
    return ("of", alias, name)


def call(name, *args):
    return ("call", ("app", name), args)


def view(layer, names, *parts):
    return (layer, tuple(names), parts)


def simple(source, *outputs, layer=1, conditions=()):
    """The definition of a view with one source."""
    return view(layer, "abcdef"[:len(outputs)], ((("o", source),), conditions, outputs))


class Reading(unittest.TestCase):
    def setUp(self):
        self.catalog = shop()

    def needs(self, address, definition, wanted):
        self.assertEqual(read(self.catalog, address, definition), wanted)

    def lacks(self, address, definition, other):
        with self.assertRaises(Needs) as caught:
            read(self.catalog, address, definition)
        self.assertEqual([caught.exception.address, caught.exception.other], [address, other])

    def misfits(self, address, definition):
        with self.assertRaises(Misfit) as caught:
            read(self.catalog, address, definition)
        self.assertEqual(caught.exception.address, address)


class NeedsOfItems(Reading):
    def test_of_items_that_stand(self):
        for address in NEEDS:
            self.needs(address, self.catalog[address], NEEDS[address])

    def test_at_new_addresses(self):
        self.needs(("schema", "new"), (), [])
        self.needs(("table", "old", "orders"), (), [(OLD, None, None, "hard")])
        self.needs(("sequence", "old", "ids"), (None,), [(OLD, None, None, "hard")])
        self.needs(("sequence", "app", "x"), (("orders", "gross"),), [
            (GROSS, None, None, "owned"), (APP, None, None, "hard"),
        ])
        self.needs(("domain", "old", "d"), ("text", None), [(OLD, None, None, "hard")])
        self.needs(("domain", "old", "d"), ("int", ("less", call("tax", ("value",)), ONE)), [
            (TAX, None, INT_TO_INT, "hard"), (OLD, None, None, "hard"),
        ])
        self.needs(("function", "old", "f"), (("int",), "truth", call("small", ("param", 0))), [
            (SMALL, None, (("int",), "truth"), "hard"), (OLD, None, None, "hard"),
        ])
        self.needs(("trigger", "app", "orders", "x"), ("delete", YES), [(ORDERS, None, None, "owned")])
        self.needs(("check", "app", "orders", "x"), (("less", column("gross"), ONE),), [
            (GROSS, None, "int", "soft"), (ORDERS, None, None, "owned"),
        ])
        self.needs(("index", "app", "x"), ("orders", (TEXT,)), [
            (APP, None, None, "hard"), (ORDERS, None, None, "owned"),
        ])

    def test_columns(self):
        address = ("column", "app", "orders", "x")
        self.needs(address, ("int", None), [(ORDERS, None, None, "owned")])
        self.needs(address, ("text", TEXT), [(ORDERS, None, None, "owned")])
        self.needs(address, (("old", "word"), None), [(WORD, None, "text", "hard"), (ORDERS, None, None, "owned")])
        self.needs(address, (("app", "money"), column("id")), [
            (ID, "plain", "int", "hard"), (MONEY, None, "int", "hard"), (ORDERS, None, None, "owned"),
        ])
        self.needs(address, ("text", ("join", column("who"), column("who"))), [
            (WHO, "plain", "text", "hard"), (ORDERS, None, None, "owned"),
        ])

    def test_defaults(self):
        self.needs(("default", "app", "orders", "who"), (("join", TEXT, TEXT),), [(WHO, None, "text", "owned")])
        self.needs(("default", "app", "orders", "gross"), (("next", ("app", "ids")),), [
            (GROSS, None, "int", "owned"), (IDS, None, None, "hard"),
        ])
        self.needs(("default", "app", "orders", "net"), (call("tax", ("next", ("app", "owned"))),), [
            (NET, None, "int", "owned"), (TAX, None, INT_TO_INT, "hard"), (OWNED, None, None, "hard"),
        ])

    def test_a_table_as_a_source_and_columns_of_it(self):
        self.needs(("view", "old", "v"), simple(ORDERS_REF, ONE), [
            (OLD, None, None, "hard"), (ORDERS, None, None, "hard"),
        ])
        self.needs(("view", "old", "v"), simple(ORDERS_REF, of("o", "who"), conditions=((of("o", "id"), ONE),)), [
            (ID, None, "int", "hard"), (WHO, None, "text", "hard"), (OLD, None, None, "hard"),
            (ORDERS, None, None, "hard"),
        ])

    def test_a_view_as_a_source_and_parts_of_it(self):
        self.needs(("view", "app", "v"), simple(("app", "nets"), TEXT, layer=9), [
            (APP, None, None, "hard"), (NETS, None, ("below", 9), "hard"),
        ])
        self.needs(("view", "app", "v"), simple(("app", "nets"), of("o", "z"), of("o", "a"), layer=3), [
            (APP, None, None, "hard"), (NETS, None, ("below", 3), "hard"), (NETS, "a", "text", "hard"),
            (NETS, "z", "int", "hard"),
        ])
        self.needs(("view", "app", "v"), view(4, "n", (
            (("p", ("app", "nets")), ("q", ("old", "tops")), ("r", ORDERS_REF)),
            ((of("p", "a"), of("q", "n")), (of("r", "net"), of("p", "z"))), (TEXT,),
        )), [
            (NET, None, "int", "hard"), (APP, None, None, "hard"), (ORDERS, None, None, "hard"),
            (NETS, None, ("below", 4), "hard"), (NETS, "a", "text", "hard"), (NETS, "z", "int", "hard"),
            (TOPS, None, ("below", 4), "hard"), (TOPS, "n", "text", "hard"),
        ])

    def test_aliases_of_one_name_in_several_parts_tell_different_sources(self):
        self.needs(("view", "app", "v"), view(
            3, "n", ((("o", ORDERS_REF),), (), (of("o", "id"),)), ((("o", ("app", "nets")),), (), (of("o", "z"),)),
        ), [
            (ID, None, "int", "hard"), (APP, None, None, "hard"), (ORDERS, None, None, "hard"),
            (NETS, None, ("below", 3), "hard"), (NETS, "z", "int", "hard"),
        ])

    def test_a_function_that_calls_itself(self):
        for address, own in [(("function", "app", "f"), (("text",), "int")), (TAX, (("text",), "int"))]:
            body = ("call", address[1:], (("param", 0),))
            self.needs(address, (("text",), "int", body), sorted(
                [(address, None, own, "hard"), (APP, None, None, "hard")], key=order_of
            ))
        self.misfits(TAX, (("text",), "int", call("tax", ("int", 1))))
        self.misfits(TAX, (("text",), "text", ("join", call("tax", TEXT), call("small", ("int", 1)))))

    def test_the_item_that_stands_there_does_not_matter(self):
        self.needs(ID, ("text", None), [(ORDERS, None, None, "owned")])
        self.needs(NETS, simple(ORDERS_REF, ONE), [(APP, None, None, "hard"), (ORDERS, None, None, "hard")])
        self.needs(("domain", "app", "money"), ("text", None), [(APP, None, None, "hard")])

    def test_equal_names_of_items_that_are_needed_together(self):
        catalog = made([
            (CREATE, "domain", "same", ("text", None)), (CREATE, "function", "same", (("text",), "text", ("param", 0))),
            (CREATE, "table", "same", ()), (CREATE, "column", ("same", "same"), ("same", None)),
            (CREATE, "column", ("same", "app"), ("text", None)),
        ], self.catalog)
        both = ("join", ("call", ("app", "same"), (column("same"),)), column("app"))
        self.assertEqual(read(catalog, ("column", "app", "same", "x"), (("app", "same"), both)), [
            (("column", "app", "same", "app"), "plain", "text", "hard"),
            (("column", "app", "same", "same"), "plain", "text", "hard"),
            (("domain", "app", "same"), None, "text", "hard"), (("function", "app", "same"), None, (("text",), "text"), "hard"),
            (("table", "app", "same"), None, None, "owned"),
        ])
        self.assertEqual(len(read(catalog, ("index", "app", "x"), ("same", (both, column("same"))))), 5)

    def test_a_returned_list_is_the_callers(self):
        before = shop()
        read(self.catalog, NET, self.catalog[NET]).clear()
        self.needs(NET, self.catalog[NET], NEEDS[NET])
        self.assertEqual(self.catalog, before)


class Lacking(Reading):
    def test_what_lies_around(self):
        for kind, definition in [
            ("table", ()), ("domain", ("int", None)), ("sequence", (None,)), ("function", ((), "int", ONE)),
        ]:
            self.lacks((kind, "none", "x"), definition, ("schema", "none"))
        for kind, definition in [("column", ("int", None)), ("check", (YES,)), ("trigger", ("insert", YES))]:
            self.lacks((kind, "app", "none", "x"), definition, NONE)
            self.lacks((kind, "app", "nets", "x"), definition, ("table", "app", "nets"))
        self.lacks(("default", "app", "orders", "none"), (ONE,), ("column", "app", "orders", "none"))
        self.lacks(("default", "app", "none", "id"), (ONE,), ("column", "app", "none", "id"))
        self.lacks(("index", "app", "x"), ("none", (ONE,)), NONE)
        self.lacks(("index", "old", "x"), ("orders", (ONE,)), ("table", "old", "orders"))
        self.lacks(("sequence", "app", "x"), (("orders", "none"),), ("column", "app", "orders", "none"))
        self.lacks(("sequence", "old", "x"), (("orders", "id"),), ("column", "old", "orders", "id"))

    def test_refs(self):
        none = ("app", "none")
        self.lacks(("domain", "app", "d"), ("int", ("call", none, ())), ("function",) + none)
        self.lacks(("column", "app", "orders", "x"), (none, None), ("domain",) + none)
        self.lacks(("default", "app", "orders", "id"), (("next", none),), ("sequence",) + none)
        self.lacks(("view", "app", "v"), simple(none, ONE), ("table",) + none)
        self.lacks(("domain", "app", "d"), ("int", ("call", ("none", "tax"), (ONE,))), ("function", "none", "tax"))

    def test_another_kind_of_item_counts_as_none(self):
        self.lacks(("default", "app", "orders", "id"), (("next", ORDERS_REF),), ("sequence", "app", "orders"))
        for name in ["ids", "bynet"]:
            self.lacks(("view", "app", "v"), simple(("app", name), of("o", "id")), ("table", "app", name))
        self.lacks(("column", "app", "orders", "x"), (("app", "tax"), None), ("domain", "app", "tax"))
        self.lacks(("domain", "app", "d"), ("int", call("money", ONE)), ("function", "app", "money"))

    def test_columns(self):
        none = ("column", "app", "orders", "none")
        self.lacks(("column", "app", "orders", "x"), ("int", column("none")), none)
        self.lacks(("check", "app", "orders", "x"), (("less", column("none"), ONE),), none)
        self.lacks(("trigger", "app", "orders", "x"), ("insert", ("less", column("none"), ONE)), none)
        self.lacks(("index", "app", "x"), ("orders", (column("none"),)), none)
        self.lacks(("view", "app", "v"), simple(ORDERS_REF, of("o", "none")), none)
        self.lacks(("view", "app", "v"), simple(ORDERS_REF, ONE, conditions=((of("o", "none"), ONE),)), none)
        self.lacks(("view", "app", "v"), simple(ORDERS_REF, ONE, conditions=((of("o", "id"), of("o", "none")),)), none)

    def test_columns_of_a_source_that_tells_nothing_are_not_asked(self):
        self.lacks(("view", "app", "v"), simple(("app", "none"), of("o", "id")), NONE)
        self.lacks(("view", "app", "v"), view(1, "n", (
            (("o", ("app", "none")), ("p", ORDERS_REF)), ((of("o", "a"), of("p", "zz")),), (ONE,)
        )), ("column", "app", "orders", "zz"))

    def test_columns_of_a_table_that_is_not_there_are_asked_where_it_is_no_source(self):
        self.lacks(("check", "app", "none", "x"), (("less", column("c"), ONE),), ("column", "app", "none", "c"))
        self.lacks(("index", "app", "x"), ("none", (column("c"),)), ("column", "app", "none", "c"))

    def test_the_least_of_several(self):
        expression = ("add", call("none"), ("next", ("app", "none")))
        self.lacks(("default", "app", "orders", "none"), (expression,), ("column", "app", "orders", "none"))
        self.lacks(("default", "app", "orders", "id"), (expression,), ("function", "app", "none"))
        self.lacks(("default", "app", "orders", "id"), (("add", call("b"), call("a")),), ("function", "app", "a"))
        self.lacks(("column", "app", "none", "x"), (("app", "none"), None), ("domain", "app", "none"))
        self.lacks(("column", "app", "none", "x"), (("app", "none"), column("b")), ("column", "app", "none", "b"))
        self.lacks(("view", "none", "v"), simple(("app", "none"), ONE), ("schema", "none"))
        self.lacks(("view", "none", "v"), simple(("none", "none"), ONE), ("schema", "none"))
        self.lacks(("view", "app", "v"), view(1, "n", (
            (("o", ("old", "b")), ("p", ("app", "z"))), (), (ONE,)
        )), ("table", "app", "z"))

    def test_ahead_of_misfit(self):
        self.lacks(("default", "app", "orders", "id"), (("add", TEXT, ("next", ("app", "none"))),),
                   ("sequence", "app", "none"))
        self.lacks(("check", "app", "orders", "x"), (("less", column("who"), column("none")),),
                   ("column", "app", "orders", "none"))
        self.lacks(("view", "app", "v"), view(1, "n", (
            (("o", ("app", "nets")), ("p", ("app", "none"))), (), (of("o", "none"),)
        )), NONE)
        self.lacks(("column", "app", "none", "x"), ("text", ONE), NONE)
        self.lacks(("column", "app", "orders", "x"), ("int", ("add", column("x"), column("none"))),
                   ("column", "app", "orders", "none"))

    def test_in_an_empty_catalog(self):
        for address in NEEDS:
            others = [need[0] for need in NEEDS[address] if need[0] != address]
            if address[0] == "view":
                tables = [other for other in others if other[0] == "table"]
                others = [("schema", address[1])] + tables + [
                    ("table",) + other[1:] for other in others if other[0] == "view"
                ]
            if others:
                with self.assertRaises(Needs) as caught:
                    read(Catalog(), address, self.catalog[address])
                self.assertEqual([caught.exception.address, caught.exception.other], [address, min(others)])


class NotFitting(Reading):
    def test_domains(self):
        for definition in [
            ("int", ONE), ("int", ("value",)), ("text", ("less", ("value",), ONE)), ("int", ("alike", ("value",), TEXT)),
            ("text", call("small", ("value",))), ("int", call("tax", ("value",))), ("int", call("small")),
            ("int", call("small", ONE, ONE)), ("int", ("not", call("small", call("small", ONE)))),
        ]:
            self.misfits(("domain", "app", "d"), definition)

    def test_columns(self):
        for definition in [
            ("int", TEXT), ("text", ONE), ("int", YES), (("old", "word"), ONE), (("app", "money"), TEXT),
            ("text", column("id")), ("int", column("who")), ("int", ("add", column("id"), column("who"))),
            ("int", call("tax", column("who"))), ("int", call("small", column("id"))),
        ]:
            self.misfits(("column", "app", "orders", "x"), definition)

    def test_a_column_in_a_rule_that_is_not_plain(self):
        self.misfits(("column", "app", "orders", "x"), ("int", column("gross")))
        self.misfits(("column", "app", "orders", "x"), ("int", ("add", column("id"), call("tax", column("gross")))))

    def test_a_rule_that_names_its_own_column(self):
        self.misfits(ID, ("int", column("id")))
        self.misfits(GROSS, ("int", ("add", column("id"), column("gross"))))
        self.misfits(("column", "app", "orders", "x"), ("int", column("x")))

    def test_defaults(self):
        for definition in [(TEXT,), (YES,), (("add", ONE, TEXT),), (("join", TEXT, ("next", ("app", "ids"))),)]:
            self.misfits(("default", "app", "orders", "net"), definition)
        for definition in [(ONE,), (("next", ("app", "ids")),), (call("tax", ONE),)]:
            self.misfits(("default", "app", "orders", "who"), definition)

    def test_checks_and_triggers(self):
        for expression in [
            ONE, TEXT, column("id"), ("not", column("id")), ("less", column("id"), column("who")),
            ("alike", column("who"), column("gross")), call("tax", column("id")), call("small", column("who")),
        ]:
            self.misfits(("check", "app", "orders", "x"), (expression,))
            self.misfits(("trigger", "app", "orders", "x"), ("insert", expression))

    def test_indexes(self):
        for expressions in [
            (("add", column("who"), ONE),), (ONE, TEXT, ("not", ONE)), (call("tax", TEXT), column("id")),
            (("join", column("who"), column("id")),),
        ]:
            self.misfits(("index", "app", "x"), ("orders", expressions))

    def test_functions(self):
        for definition in [
            ((), "int", TEXT), ((), "text", ONE), ((), "truth", ONE), (("int",), "int", ("param", 1)),
            ((), "int", ("param", 0)), (("text",), "int", ("param", 0)), (("text",), "int", call("tax", ("param", 0))),
            ((), "int", call("f", ONE)), ((), "text", ("join", TEXT, ("call", ("app", "small"), (ONE,)))),
        ]:
            self.misfits(("function", "app", "f"), definition)

    def test_queries(self):
        source = (("o", ORDERS_REF), ("v", ("app", "nets")))
        for conditions, outputs in [
            (((of("o", "id"), TEXT),), (ONE,)), (((of("o", "who"), ONE),), (ONE,)),
            (((of("o", "who"), of("o", "id")),), (ONE,)), (((of("v", "a"), of("o", "id")),), (ONE,)),
            (((of("v", "z"), TEXT),), (ONE,)), (((of("o", "id"), ONE), (of("o", "id"), TEXT)), (ONE,)),
            ((), (of("v", "none"),)), ((), (of("v", "net"),)), (((of("v", "none"), ONE),), (ONE,)),
            (((of("v", "none"), of("v", "none")),), (ONE,)),
        ]:
            self.misfits(("view", "app", "v"), view(3, "n", (source, conditions, outputs)))

    def test_outputs_of_several_parts(self):
        one = ((("o", ORDERS_REF),), (), (ONE, TEXT))
        for outputs in [(TEXT, TEXT), (ONE, ONE), (TEXT, ONE), (of("o", "who"), of("o", "who"))]:
            other = ((("o", ORDERS_REF),), (), outputs)
            self.misfits(("view", "app", "v"), view(1, "ab", one, other))
            self.misfits(("view", "app", "v"), view(1, "ab", one, one, other))
        fitting = ((("o", ORDERS_REF),), (), (of("o", "gross"), of("o", "who")))
        self.assertEqual(len(read(self.catalog, ("view", "app", "v"), view(1, "ab", one, one, fitting))), 4)

    def test_a_view_of_no_lesser_layer(self):
        for layer in [1, 2]:
            self.misfits(("view", "app", "v"), simple(("app", "nets"), of("o", "z"), layer=layer))
        for layer in [1, 2, 3]:
            self.misfits(("view", "app", "v"), simple(("old", "tops"), ONE, layer=layer))
        self.misfits(NETS, simple(("old", "tops"), ONE, layer=2))

    def test_a_view_that_has_itself_as_a_source(self):
        for layer in [1, 2, 3, 9]:
            self.misfits(NETS, simple(("app", "nets"), ONE, layer=layer))
            self.misfits(NETS, simple(("app", "nets"), of("o", "z"), layer=layer))
            self.misfits(("view", "app", "v"), simple(("app", "v"), ONE, layer=layer))
            self.misfits(("view", "app", "v"), simple(("app", "v"), of("o", "a"), layer=layer))

    def test_a_view_at_its_own_name_whatever_stands_there(self):
        for name in ["orders", "ids", "bynet"]:
            self.misfits(("view", "app", name), simple(("app", name), ONE))
            self.misfits(("view", "app", name), simple(("app", name), of("o", "id")))
        self.lacks(("view", "app", "orders"), view(1, "n", (
            (("o", ORDERS_REF), ("p", ("app", "none"))), (), (of("o", "none"),)
        )), NONE)


class Faults(unittest.TestCase):
    def setUp(self):
        catalog = shop()
        self.items = {address: (catalog[address], catalog.needs(address)) for address in catalog.addresses()}

    def faults_without(self, *gone):
        return faults({address: self.items[address] for address in self.items if address not in gone})

    def test_none_of_a_valid_catalog(self):
        self.assertEqual(faults(self.items), [])
        self.assertEqual(faults({}), [])

    def test_items_that_lack_what_they_need(self):
        for gone in NEEDS:
            wanted = [
                (address, need) for address in NEEDS for need in NEEDS[address] if gone == need[0] and address != gone
            ]
            self.assertEqual(self.faults_without(gone), sorted(wanted, key=order_of), gone)

    def test_several_that_are_gone(self):
        wanted = [(address, need) for address in NEEDS for need in NEEDS[address]
                  if need[0] in (TAX, ORDERS, NETS) and address not in (TAX, ORDERS, NETS)]
        self.assertEqual(self.faults_without(TAX, ORDERS, NETS), sorted(wanted, key=order_of))

    def test_a_function_that_calls_itself_meets_its_own_need(self):
        self.assertEqual(faults({APP: ((), []), SELF: self.items[SELF]}), [])

    def test_other_types(self):
        self.items[WORD] = (("int", None), self.items[WORD][1])
        self.assertEqual(faults(self.items), [(WHO, (WORD, None, "text", "hard"))])
        self.items[ID] = (("text", None), self.items[ID][1])
        self.assertEqual(faults(self.items), [
            (GROSS, (ID, "plain", "int", "hard")), (WHO, (WORD, None, "text", "hard")),
            (START, (ID, None, "int", "owned")), (BYNET, (ID, None, "int", "soft")),
        ])

    def test_a_function_with_other_parameters(self):
        self.items[TAX] = ((("int", "int"), "int", ONE), self.items[TAX][1])
        self.assertEqual([fault[0] for fault in faults(self.items)], [GROSS, SMALL])
        self.items[TAX] = ((("int",), "text", TEXT), self.items[TAX][1])
        self.assertEqual([fault[0] for fault in faults(self.items)], [GROSS, SMALL])
        self.items[TAX] = ((("int",), "int", ONE), self.items[TAX][1])
        self.assertEqual(faults(self.items), [])

    def test_a_column_that_is_not_plain(self):
        self.items[ID] = (("int", ONE), self.items[ID][1])
        self.assertEqual(faults(self.items), [(GROSS, (ID, "plain", "int", "hard"))])

    def test_layers_and_columns_of_views(self):
        definition, needs = self.items[NETS]
        for layer in [1, 2]:
            self.items[NETS] = ((layer,) + definition[1:], needs)
            self.assertEqual(faults(self.items), [])
        for layer in [3, 4, 9]:
            self.items[NETS] = ((layer,) + definition[1:], needs)
            self.assertEqual(faults(self.items), [(TOPS, (NETS, None, ("below", 3), "hard"))])
        self.items[NETS] = (definition[:1] + (("z", "b"),) + definition[2:], needs)
        self.assertEqual(faults(self.items), [(TOPS, (NETS, "a", "text", "hard"))])
        self.items[NETS] = (definition[:1] + (("a", "z"),) + definition[2:], needs)
        self.assertEqual(faults(self.items), [
            (TOPS, (NETS, "a", "text", "hard")), (TOPS, (NETS, "z", "int", "hard")),
        ])

    def test_names_that_stand_twice_in_a_space(self):
        here = (APP, None, None, "hard")
        self.items[("view", "app", "orders")] = (simple(("app", "nets"), ONE, layer=3), [
            here, (NETS, None, ("below", 3), "hard"),
        ])
        twice = [(("table", "app", "orders"), None), (("view", "app", "orders"), None)]
        self.assertEqual(faults(self.items), twice)
        self.items[("sequence", "app", "orders")] = ((None,), [here])
        self.assertEqual(faults(self.items), [(("sequence", "app", "orders"), None)] + twice)
        self.items[("index", "app", "ids")] = (("orders", (ONE,)), [here, (ORDERS, None, None, "owned")])
        self.assertEqual(faults(self.items), [
            (("index", "app", "ids"), None), (("sequence", "app", "ids"), None), (("sequence", "app", "orders"), None),
        ] + twice)

    def test_equal_names_in_different_spaces(self):
        for address, definition in [
            (("domain", "app", "orders"), ("int", None)), (("function", "app", "orders"), ((), "int", ONE)),
            (("sequence", "old", "orders"), (None,)), (("table", "old", "nets"), ()),
        ]:
            self.items[address] = (definition, [(("schema", address[1]), None, None, "hard")])
        for kind, definition in [("check", (YES,)), ("trigger", ("insert", YES))]:
            self.items[(kind, "app", "orders", "id")] = (definition, [(ORDERS, None, None, "owned")])
        self.assertEqual(faults(self.items), [])

    def test_both_in_the_order_told(self):
        here = (APP, None, None, "hard")
        lacking = (NONE, None, None, "owned")
        self.items[("index", "app", "orders")] = (("none", (ONE,)), [here, lacking])
        self.items[("index", "app", "x")] = (("none", (ONE,)), [lacking, here])
        self.assertEqual(faults(self.items), [
            (("index", "app", "orders"), None), (("index", "app", "orders"), lacking), (("index", "app", "x"), lacking),
            (ORDERS, None),
        ])

    def test_several_needs_of_one_item_in_their_order(self):
        self.assertEqual(self.faults_without(ID, NET, MONEY, SMALL)[-5:], [
            (BYNET, (ID, None, "int", "soft")), (BYNET, (NET, None, "int", "soft")),
            (BYNET, (SMALL, None, (("int",), "truth"), "hard")), (OWNED, (ID, None, None, "owned")),
            (NETS, (NET, None, "int", "hard")),
        ])

    def test_what_is_passed_stays(self):
        before = {address: (self.items[address][0], list(self.items[address][1])) for address in self.items}
        faults(self.items).append(1)
        self.assertEqual(self.items, before)
        self.assertEqual(faults(self.items), [])

    def test_checks_and_triggers_that_lack_a_column(self):
        self.assertEqual(self.faults_without(WHO), [
            (TOLD, (WHO, None, "text", "soft")), (NETS, (WHO, None, "text", "hard")),
        ])
        self.assertEqual(self.faults_without(GROSS), [
            (CHEAP, (GROSS, None, "int", "soft")), (TOPS, (GROSS, None, "int", "hard")),
        ])


class ExamplesOfTheDocument(unittest.TestCase):
    def test_them(self):
        nets = (1, ("n",), (((("o", "orders"),), (), (("of", "o", "net"),)),))
        catalog = made([
            (CREATE, "schema", "app", ()), ("path", ("old", "app")), (CREATE, "table", "orders", ()),
            (CREATE, "column", ("orders", "net"), ("int", None)),
            (CREATE, "index", "bynet", ("orders", (("column", "net"),))), (CREATE, "view", "nets", nets),
        ])
        self.assertEqual([catalog.addresses(), catalog.path], [
            [("column", "app", "orders", "net"), ("index", "app", "bynet"), ("schema", "app"),
             ("table", "app", "orders"), ("view", "app", "nets")], ("old", "app"),
        ])
        self.assertEqual([catalog.needs(("view", "app", "nets")), catalog.offers(("view", "app", "nets"))], [
            [(("column", "app", "orders", "net"), None, "int", "hard"), (("schema", "app"), None, None, "hard"),
             (("table", "app", "orders"), None, None, "hard")], [(None, 1), ("n", "int")],
        ])
        self.assertEqual(turns(catalog, "relation", "bills"), (["app"], None, None))
