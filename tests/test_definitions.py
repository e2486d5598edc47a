"""[31] definitions, with the table of [5]."""

import unittest

from leancatalog.definitions import is_definition, refs_of, with_refs
from leancatalog.words import KINDS
from tests.stub import Odd, all_sorts

ONE, TEXT = ("int", 1), ("text", "a")
COLUMN, VALUE, PARAM, NEXT = ("column", "net"), ("value",), ("param", 0), ("next", "ids")
PLACED = {"column": COLUMN, "value": VALUE, "param": PARAM, "next": NEXT}
QUERY = (((("o", "orders"),), (), (("of", "o", "net"),)),)
TWO = (((("o", "orders"),), (), (("of", "o", "net"), ("of", "o", "who"))),)

RIGHT = {
    "schema": [()],
    "table": [()],
    "domain": [
        ("int", None), ("text", None), ("int", ("less", VALUE, ONE)), ("text", ONE), ("int", ("call", "f", (VALUE,))),
    ],
    "sequence": [(None,), (("orders", "net"),), (("a", "a"),)],
    "column": [
        ("int", None), ("text", None), ("money", None), (("app", "money"), None), ("int", ("add", COLUMN, ONE)),
        (("app", "money"), ONE), ("truth", None), (("app", "int"), None),
    ],
    "default": [(ONE,), (NEXT,), (("add", NEXT, ONE),), (("call", ("app", "f"), ()),)],
    "check": [(("less", COLUMN, ONE),), (ONE,), (COLUMN,)],
    "view": [(1, ("net",), QUERY), (9, ("a",), QUERY), (5, ("net", "who"), TWO), (2, ("who",), QUERY * 4)],
    "function": [
        ((), "int", ONE), (("int",), "text", PARAM), (("int", "text", "int", "text"), "truth", ("not", PARAM)),
        ((), "text", ("call", "f", ())),
    ],
    "index": [("orders", (COLUMN,)), ("orders", (ONE,)), ("orders", (COLUMN,) * 4), ("a", (COLUMN, ("not", TEXT)))],
    "trigger": [("insert", ONE), ("update", COLUMN), ("delete", ("less", COLUMN, ONE))],
}

WRONG = {
    "schema": [((),), ("app",), (None,)],
    "table": [((),), ("app",), (None,)],
    "domain": [
        (), ("int",), ("int", None, None), ("truth", None), ("money", None), (("app", "money"), None), (None, None),
        ("int", ()), ("int", True), ("int", "value"), ("int", [VALUE]), (["int"], None), (("int",), None),
        ("Int", None), ("int", (None,)),
    ],
    "sequence": [
        (), (None, None), ("orders",), (("orders",),), (("orders", "net", "a"),), (["orders", "net"],), ((),),
        ("orders", "net"), (("orders", "Net"),), (("", "net"),), (True,), (False,), (0,), (("orders", None),),
        ((None, None),),
    ],
    "column": [
        (), ("int",), ("int", None, None), (None, None), ("Money", None), (("app",), None),
        (("app", "money", "a"), None), (["app", "money"], None), ("int", ()), ("int", False), ("int", "net"), ((), None),
        ("", None), (("int", "Text"), None), (1, None),
    ],
    "default": [(), (None,), (ONE, ONE), ONE, ((),), ((ONE,),), ([NEXT],), (1,)],
    "check": [(), (None,), (ONE, ONE), COLUMN, ((),), ((ONE,),), ([COLUMN],), (True,)],
    "view": [
        (), (1, ("net",)), (1, ("net",), QUERY, ()), (0, ("net",), QUERY), (10, ("net",), QUERY), (-1, ("net",), QUERY),
        (True, ("net",), QUERY), (False, ("net",), QUERY), ("1", ("net",), QUERY), (None, ("net",), QUERY),
        ((1,), ("net",), QUERY), (10 ** 40, ("net",), QUERY), (1, (), QUERY), (1, ("net", "who"), QUERY),
        (1, ("net",), TWO), (1, ("net", "net"), TWO), (1, ("net", "who", "a"), TWO), (1, ["net"], QUERY),
        (1, "net", QUERY), (1, ("Net",), QUERY), (1, (None,), QUERY), (1, (("app", "net"),), QUERY), (1, ([],), QUERY),
        (1, ("net", None), TWO), (1, ("Net", "net"), TWO), (1, None, QUERY), (1, ("net",), ()), (1, ("net",), None),
        (1, ("net",), QUERY[0]), (1, ("net",), QUERY * 5),
        (1, ("net",), list(QUERY)), (1, (), ()), (1, {"net": 1}, QUERY), (1, ("net", "who"), (QUERY[0], TWO[0])),
    ],
    "function": [
        (), ((), "int"), ((), "int", ONE, ONE), (("int",) * 5, "int", ONE), (("truth",), "int", ONE),
        (("money",), "int", ONE), ((None,), "int", ONE), (["int"], "int", ONE), ("int", "int", ONE), (None, "int", ONE),
        ((), "money", ONE), ((), None, ONE), ((), ("int",), ONE), ((), ["int"], ONE), ((), "int", None), ((), "int", ()),
        ((), "int", 1), (((),), "int", ONE), (({},), "int", ONE), ((("int",),), "int", ONE), ((True,), "int", ONE),
    ],
    "index": [
        (), ("orders",), ("orders", ()), ("orders", (COLUMN,) * 5), ("orders", (COLUMN,), None), ("orders", [COLUMN]),
        ("orders", COLUMN), ("orders", None), ("orders", (None,)), ("orders", (COLUMN, ())), (("app", "orders"), (COLUMN,)),
        ("Orders", (COLUMN,)), (None, (COLUMN,)), ("", (COLUMN,)), ("orders", ("net",)),
    ],
    "trigger": [
        (), ("insert",), ("insert", ONE, ONE), ("insert", None), ("select", ONE), ("Insert", ONE), (None, ONE),
        (("insert",), ONE), (["insert"], ONE), ("insert", ()), ("insert", (ONE,)), ("insert", [ONE]), (True, ONE),
    ],
}

# Definitions of a kind with an expression at its place, and the expressions of the table that may stand there alone.
WITH = {
    "domain": (lambda expression: ("int", expression), ["value"]),
    "column": (lambda expression: ("int", expression), ["column"]),
    "default": (lambda expression: (expression,), ["next"]),
    "check": (lambda expression: (expression,), ["column"]),
    "function": (lambda expression: (("int",), "int", expression), ["param"]),
    "index": (lambda expression: ("orders", (ONE, expression)), ["column"]),
    "trigger": (lambda expression: ("update", expression), ["column"]),
}


class Forms(unittest.TestCase):
    def test_right_ones(self):
        self.assertEqual(sorted(RIGHT), sorted(KINDS))
        for kind in RIGHT:
            for definition in RIGHT[kind]:
                self.assertIs(is_definition(kind, definition), True, (kind, definition))

    def test_wrong_ones(self):
        for kind in WRONG:
            for definition in WRONG[kind]:
                self.assertIs(is_definition(kind, definition), False, (kind, definition))

    def test_layers(self):
        found = [is_definition("view", (layer, ("net",), QUERY)) for layer in range(-1, 12)]
        self.assertEqual(found, [1 <= layer <= 9 for layer in range(-1, 12)])

    def test_one_kinds_definition_asked_of_another(self):
        # A column and a next have the form of a sequence's owner, an event has that of a domain's ref.
        alike = [
            ("schema", "table"), ("table", "schema"), ("default", "check"), ("check", "default"), ("domain", "column"),
            ("column", "domain"), ("default", "sequence"), ("check", "sequence"), ("trigger", "column"),
        ]
        for kind in KINDS:
            for other in [other for other in KINDS if other != kind and (kind, other) not in alike]:
                for definition in RIGHT[kind]:
                    self.assertIs(is_definition(other, definition), False, (other, definition))

    def test_expressions_that_stand_only_at_another_place(self):
        for kind in WITH:
            made, allowed = WITH[kind]
            for word in PLACED:
                self.assertIs(is_definition(kind, made(PLACED[word])), word in allowed, (kind, word))
                self.assertIs(is_definition(kind, made(("not", PLACED[word]))), word in allowed, (kind, word))
            self.assertIs(is_definition(kind, made(("call", "f", (TEXT,)))), True)

    def test_types_do_not_matter(self):
        for kind in WITH:
            for expression in [ONE, TEXT, ("not", ONE), ("add", TEXT, ("not", TEXT)), ("call", "f", (ONE, TEXT))]:
                made, _ = WITH[kind]
                self.assertIs(is_definition(kind, made(expression)), True)

    def test_expressions_of_a_wrong_form(self):
        deep = ONE
        for _ in range(8):
            deep = ("not", deep)
        for kind in WITH:
            made, _ = WITH[kind]
            for expression in [deep, ("int", True), ("text", "a" * 21), ("add", ONE), (), ["int", 1], 1, "int", Odd()]:
                self.assertIs(is_definition(kind, made(expression)), False)

    def test_an_empty_list_is_no_definition(self):
        for kind in KINDS:
            self.assertIs(is_definition(kind, []), False)
            for definition in RIGHT[kind]:
                self.assertIs(is_definition(kind, list(definition)), False)

    def test_other_sorts(self):
        odd = [Odd(), (Odd(),), (Odd(), None), (Odd(), ONE), ((), Odd(), ONE), ((Odd(),), "int", ONE), (Odd(), Odd(), ONE)]
        for thing in all_sorts() + odd:
            for kind in KINDS:
                if thing == () and kind in ["schema", "table"] and isinstance(thing, tuple):
                    continue
                if thing == (None,) and kind == "sequence":
                    continue
                self.assertIs(is_definition(kind, thing), False, (kind, thing))


class Refs(unittest.TestCase):
    def test_the_example(self):
        view = (1, ("net",), QUERY)
        self.assertEqual([is_definition("view", view), refs_of("view", view)], [True, [("relation", "orders")]])

    def test_kinds_without_refs(self):
        for kind, definition in [
            ("schema", ()), ("table", ()), ("sequence", (None,)), ("sequence", (("orders", "net"),)),
            ("index", ("orders", (COLUMN,))), ("column", ("int", None)), ("column", ("text", COLUMN)),
            ("domain", ("int", None)), ("function", (("int",), "int", PARAM)), ("check", (COLUMN,)),
            ("sequence", (("next", "ids"),)), ("sequence", (("call", "f"),)), ("sequence", (("add", "net"),)),
        ]:
            self.assertEqual(refs_of(kind, definition), [])

    def test_each_kind_with_calls(self):
        for kind in WITH:
            made, _ = WITH[kind]
            expression = ("call", "g", (("call", ("app", "f"), ()), ("call", "f", (("call", "g", ()),))))
            told = [("function", "f"), ("function", "g"), ("function", ("app", "f"))]
            self.assertEqual(refs_of(kind, made(expression)), told)

    def test_several_expressions_of_an_index(self):
        index = ("orders", (("call", "h", ()), COLUMN, ("call", ("app", "a"), ()), ("call", "b", (("call", "h", ()),))))
        self.assertEqual(refs_of("index", index), [("function", "b"), ("function", "h"), ("function", ("app", "a"))])

    def test_domains_of_columns(self):
        self.assertEqual(refs_of("column", ("money", None)), [("domain", "money")])
        self.assertEqual(refs_of("column", (("app", "int"), None)), [("domain", ("app", "int"))])
        self.assertEqual(refs_of("column", ("truth", None)), [("domain", "truth")])
        column = ("money", ("call", "a", (("call", ("app", "money"), ()),)))
        self.assertEqual(refs_of("column", column), [("domain", "money"), ("function", "a"), ("function", ("app", "money"))])

    def test_defaults(self):
        expression = ("add", ("next", ("z", "a")), ("call", "z", (("next", "z"), ("next", "b"), ("next", ("a", "z")))))
        self.assertEqual(refs_of("default", (expression,)), [
            ("function", "z"), ("sequence", "b"), ("sequence", "z"), ("sequence", ("a", "z")), ("sequence", ("z", "a")),
        ])

    def test_sources_of_views(self):
        first = ((("o", "z"), ("p", ("app", "b")), ("q", "c")), (), (ONE,))
        second = ((("o", "c"), ("p", ("app", "a")), ("q", "z")), (), (ONE,))
        self.assertEqual(refs_of("view", (1, ("net",), (first, second))), [
            ("relation", "c"), ("relation", "z"), ("relation", ("app", "a")), ("relation", ("app", "b")),
        ])

    def test_a_returned_list_is_the_callers(self):
        view = (1, ("net",), QUERY)
        refs_of("view", view).clear()
        self.assertEqual(refs_of("view", view), [("relation", "orders")])


class WithRefs(unittest.TestCase):
    def test_none_found(self):
        for kind in RIGHT:
            for definition in RIGHT[kind]:
                self.assertEqual(with_refs(kind, definition, {}), definition)

    def test_keys_that_are_not_needed(self):
        found = {(space, "zzz"): ("app", "zzz") for space in ["domain", "function", "relation", "sequence"]}
        found.update({("domain", "int"): "a", ("domain", "text"): "a", ("schema", "app"): "a", ("index", "net"): "a"})
        found.update({("relation", "net"): "a", ("sequence", "orders"): "a", ("function", "orders"): "a"})
        found.update({("sequence", ("orders", "net")): "a", ("relation", ("orders", "net")): "a"})
        for kind in RIGHT:
            for definition in [told for told in RIGHT[kind] if not refs_of(kind, told)]:
                self.assertEqual(with_refs(kind, definition, found), definition)

    def test_an_owner_is_no_expression(self):
        found = {("sequence", "ids"): ("app", "ids"), ("function", "f"): ("app", "f")}
        for owner in [("next", "ids"), ("call", "f"), ("add", "net"), ("of", "ids")]:
            self.assertEqual(with_refs("sequence", (owner,), found), (owner,))

    def test_each_kind_with_calls(self):
        found = {("function", "f"): ("app", "f"), ("sequence", "g"): ("app", "s"), ("function", ("app", "h")): "k"}
        for kind in WITH:
            made, _ = WITH[kind]
            before = ("call", "g", (("call", "f", (("call", ("app", "h"), ()),)), ("not", ("call", "f", ())), ONE))
            after = ("call", "g", (("call", ("app", "f"), (("call", "k", ()),)), ("not", ("call", ("app", "f"), ())), ONE))
            self.assertEqual(with_refs(kind, made(before), found), made(after))

    def test_every_expression_of_an_index(self):
        index = ("f", (("call", "f", ()), ("column", "f"), ("call", "g", ()), ("text", "f")))
        self.assertEqual(
            with_refs("index", index, {("function", "f"): ("app", "f"), ("function", "g"): "f"}),
            ("f", (("call", ("app", "f"), ()), ("column", "f"), ("call", "f", ()), ("text", "f"))),
        )

    def test_refs_that_change_places(self):
        default = (("add", ("call", "f", (("call", "g", ()),)), ("next", "f")),)
        found = {("function", "f"): "g", ("function", "g"): "f", ("sequence", "f"): "s"}
        self.assertEqual(
            with_refs("default", default, found), (("add", ("call", "g", (("call", "f", ()),)), ("next", "s")),)
        )

    def test_columns(self):
        found = {("domain", "money"): ("app", "money"), ("domain", ("app", "int")): "cash", ("function", "money"): "f"}
        self.assertEqual(with_refs("column", ("money", None), found), (("app", "money"), None))
        self.assertEqual(with_refs("column", (("app", "int"), COLUMN), found), ("cash", COLUMN))
        self.assertEqual(
            with_refs("column", ("money", ("call", "money", ())), found), (("app", "money"), ("call", "f", ()))
        )
        self.assertEqual(with_refs("column", ("int", ("call", "money", ())), found), ("int", ("call", "f", ())))

    def test_int_and_text_are_no_refs(self):
        found = {("domain", "int"): ("app", "int"), ("domain", "text"): ("app", "text")}
        self.assertEqual(with_refs("column", ("int", None), found), ("int", None))
        self.assertEqual(with_refs("column", ("text", ONE), found), ("text", ONE))

    def test_views(self):
        first = ((("o", "o"), ("p", ("app", "b")), ("q", "c")), ((("of", "o", "c"), TEXT),), (("of", "q", "o"),))
        second = ((("c", "c"),), (), (("of", "c", "c"),))
        found = {("relation", "o"): ("app", "o"), ("relation", "c"): ("old", "c"), ("relation", ("app", "b")): "d"}
        changed = ((("o", ("app", "o")), ("p", "d"), ("q", ("old", "c"))), ((("of", "o", "c"), TEXT),), (("of", "q", "o"),))
        self.assertEqual(
            with_refs("view", (3, ("c",), (first, second)), found),
            (3, ("c",), (changed, ((("c", ("old", "c")),), (), (("of", "c", "c"),)))),
        )

    def test_names_and_tuples_are_told_apart(self):
        default = (("add", ("next", "s"), ("next", ("app", "s"))),)
        self.assertEqual(
            with_refs("default", default, {("sequence", ("app", "s")): ("old", "s")}),
            (("add", ("next", "s"), ("next", ("old", "s"))),),
        )

    def test_all_refs_of_a_definition_are_exchanged(self):
        for kind in RIGHT:
            for definition in RIGHT[kind]:
                told = refs_of(kind, definition)
                found = {(space, ref): ("new", ref if isinstance(ref, str) else ref[1]) for space, ref in told}
                changed = with_refs(kind, definition, found)
                self.assertEqual(refs_of(kind, changed), sorted((key[0], found[key]) for key in found))
                self.assertIs(is_definition(kind, changed), True)

    def test_found_stays_and_the_order_of_its_keys_means_nothing(self):
        check = (("call", "f", (("call", "g", ()), ("call", "f", ()))),)
        found = {("function", "f"): "g", ("function", "g"): "h", ("sequence", "f"): "s"}
        turned = {key: found[key] for key in reversed(found)}
        changed = (("call", "g", (("call", "h", ()), ("call", "g", ()))),)
        self.assertEqual([with_refs("check", check, told) for told in [found, turned]], [changed, changed])
        self.assertEqual(found, {("function", "f"): "g", ("function", "g"): "h", ("sequence", "f"): "s"})
