"""[22] exprs, with the table of [3]."""

import copy
import unittest

from leancatalog.exprs import columns_in, is_expression, refs_in, type_of
from tests.stub import Odd, all_sorts

PLACES = ["domain", "rule", "default", "check", "index", "trigger", "body"]
TEN_18 = 10 ** 18
ONE, TEXT = ("int", 1), ("text", "a")
TRUE = ("equal", ONE, ONE)

# An expression of each row of the table, its type, and the places where it may stand.
ROWS = [
    (("int", 5), "int", PLACES),
    (("text", "ann"), "text", PLACES),
    (("column", "net"), "int", ["rule", "check", "index", "trigger"]),
    (("value",), "text", ["domain"]),
    (("param", 1), "text", ["body"]),
    (("next", "ids"), "int", ["default"]),
    (("next", ("app", "ids")), "int", ["default"]),
    (("call", "tax", (ONE, TEXT)), "truth", PLACES),
    (("call", ("app", "now"), ()), "int", PLACES),
    (("add", ONE, ("int", 2)), "int", PLACES),
    (("join", TEXT, ("text", "")), "text", PLACES),
    (("less", ONE, ONE), "truth", PLACES),
    (("equal", ONE, ONE), "truth", PLACES),
    (("alike", TEXT, TEXT), "truth", PLACES),
    (("and", TRUE, TRUE), "truth", PLACES),
    (("not", TRUE), "truth", PLACES),
]

TOLD = {
    "columns": {"net": "int", "who": "text"},
    "value": "text",
    "params": ("int", "text"),
    "functions": {"tax": (("int", "text"), "truth"), ("app", "now"): ((), "int"), ("app", "tax"): (("text",), "text")},
}


def told_type(expression):
    return type_of(expression, **TOLD)


def nots(depth):
    """An expression with so many within one another, and as many in it."""
    thing = ("int", 1)
    for _ in range(depth - 1):
        thing = ("not", thing)
    return thing


def sums(many):
    """A sum of so many expressions, an odd number, at most 31, at most six within one another."""
    level = [ONE] * (many // 2 + 1)
    while len(level) > 1:
        odd = level[len(level) // 2 * 2:]
        level = [("add", one, other) for one, other in zip(level[::2], level[1::2])] + odd
    return level[0]


class Places(unittest.TestCase):
    def test_each_row_at_each_place(self):
        for expression, _, places in ROWS:
            for place in PLACES:
                self.assertIs(is_expression(expression, place), place in places, (expression, place))

    def test_each_row_within_others_at_each_place(self):
        for expression, _, places in ROWS:
            for outer in [("not", expression), ("add", ONE, expression), ("call", "tax", (ONE, ("not", expression)))]:
                for place in PLACES:
                    self.assertIs(is_expression(outer, place), place in places, (outer, place))

    def test_types_do_not_matter(self):
        for thing in [("add", TEXT, TRUE), ("not", ONE), ("join", ONE, ONE), ("and", ONE, TEXT), ("alike", TRUE, ONE)]:
            for place in PLACES:
                self.assertIs(is_expression(thing, place), True)


class Bounds(unittest.TestCase):
    def test_integers(self):
        for k in [0, 1, -1, TEN_18, -TEN_18, TEN_18 - 1]:
            self.assertIs(is_expression(("int", k), "check"), True)
        for k in [TEN_18 + 1, -TEN_18 - 1, 10 ** 5000, True, False, "1", None, (1,), ("int", 1), ()]:
            self.assertIs(is_expression(("int", k), "check"), False)

    def test_texts(self):
        for t in ["", "a", "a" * 20, "A b\n!", " " * 20, "~\"'\\"]:
            self.assertIs(is_expression(("text", t), "check"), True)
        for t in ["a" * 21, "a" * 20000, b"a", 1, None, True, ("a",), ["a"]]:
            self.assertIs(is_expression(("text", t), "check"), False)

    def test_params(self):
        for k in [0, 1, 2, 3]:
            self.assertIs(is_expression(("param", k), "body"), True)
        for k in [4, -1, 10 ** 40, True, False, "0", None, (0,)]:
            self.assertIs(is_expression(("param", k), "body"), False)

    def test_columns_and_refs(self):
        for name in ["a", "abcdefgh"]:
            self.assertIs(is_expression(("column", name), "check"), True)
        for name in ["", "abcdefghi", "Net", "net\n", ("app", "net"), ["net"], None, 1]:
            self.assertIs(is_expression(("column", name), "check"), False)
            if name != ("app", "net"):
                self.assertIs(is_expression(("next", name), "default"), False)
                self.assertIs(is_expression(("call", name, ()), "default"), False)
        for ref in [("app",), ("app", "net", "a"), ["app", "net"], ("app", "Net"), ()]:
            self.assertIs(is_expression(("next", ref), "default"), False)
            self.assertIs(is_expression(("call", ref, ()), "default"), False)

    def test_arguments_of_a_call(self):
        for many in range(5):
            self.assertIs(is_expression(("call", "f", (ONE,) * many), "check"), True)
        self.assertIs(is_expression(("call", "f", (ONE,) * 5), "check"), False)
        for args in [[], [ONE], None, ONE, (ONE, None), (ONE, 1), (ONE, []), {}, "", (("int", True),)]:
            self.assertIs(is_expression(("call", "f", args), "check"), False)

    def test_thirty_expressions(self):
        self.assertIs(is_expression(sums(29), "check"), True)
        self.assertIs(is_expression(("not", sums(29)), "check"), True)
        self.assertIs(is_expression(sums(31), "check"), False)
        self.assertIs(is_expression(("not", ("not", sums(29))), "check"), False)
        thirty = ("call", "f", (sums(7), sums(7), sums(7), ("not", sums(7))))
        self.assertIs(is_expression(thirty, "check"), True)
        self.assertIs(is_expression(("call", "f", (sums(7), sums(7), ("not", sums(7)), ("not", sums(7)))), "check"), False)

    def test_eight_within_one_another(self):
        self.assertIs(is_expression(nots(8), "check"), True)
        self.assertIs(is_expression(nots(9), "check"), False)
        self.assertIs(is_expression(("call", "f", (nots(7),)), "check"), True)
        self.assertIs(is_expression(("call", "f", (ONE, nots(8))), "check"), False)
        self.assertIs(is_expression(("and", nots(8), ONE), "check"), False)
        calls = ("call", "f", ())
        for _ in range(7):
            calls = ("call", "f", (calls,))
        self.assertIs(is_expression(calls, "check"), True)
        self.assertIs(is_expression(("call", "f", (calls,)), "check"), False)


class Forms(unittest.TestCase):
    def test_a_part_too_many_or_too_few(self):
        for expression, _, places in ROWS:
            self.assertIs(is_expression(expression + (ONE,), places[0]), False)
            self.assertIs(is_expression(expression + ((),), places[0]), False)
            self.assertIs(is_expression(expression[:-1], places[0]), False)
            self.assertIs(is_expression(expression[:1] + (ONE,) * 3, places[0]), False)

    def test_lists_for_tuples(self):
        for expression, _, places in ROWS:
            self.assertIs(is_expression(list(expression), places[0]), False)
            self.assertIs(is_expression(("not", list(expression)), places[0]), False)
            self.assertIs(is_expression(("call", "f", (ONE, list(expression))), places[0]), False)

    def test_words_as_texts_and_as_names(self):
        for word in ["int", "text", "column", "value", "param", "next", "call", "add", "not", "truth"]:
            self.assertIs(is_expression(("text", word), "body"), True)
            self.assertIs(is_expression(("column", word), "rule"), True)
            self.assertIs(is_expression(("next", word), "default"), True)
            self.assertIs(is_expression(("call", word, (("text", word),)), "body"), True)
            self.assertEqual(type_of(("text", word)), "text")
            self.assertEqual(type_of(("column", word), columns={word: "int"}), "int")

    def test_other_words(self):
        for word in ["", "Int", "or", "of", "truth", "sub", "domain", None, 1, (), [], {}, ("int",), b"int"]:
            for rest in [(), (1,), ("a",), (ONE,), (ONE, ONE), ("f", ())]:
                for place in PLACES:
                    self.assertIs(is_expression((word,) + rest, place), False)

    def test_parts_that_are_no_expressions(self):
        for thing in [None, 1, "a", (), [], (ONE,), ("int",), ("text", 1), True, {}, Odd()]:
            for expression in [("add", ONE, thing), ("less", thing, ONE), ("not", thing), ("and", thing, thing)]:
                self.assertIs(is_expression(expression, "check"), False)

    def test_other_sorts(self):
        for thing in all_sorts() + [Odd(), (Odd(),), ("int", Odd()), ("column", Odd()), (Odd(), Odd())]:
            for place in PLACES:
                self.assertIs(is_expression(thing, place), False)
            self.assertIs(is_expression(("not", thing), "check"), False)
            self.assertIs(is_expression(("call", "f", (thing,)), "check"), False)

    def test_a_part_that_stands_many_times_is_counted_each_time(self):
        thing = ONE
        for _ in range(38):
            thing = ("add", thing, thing)
        self.assertIs(is_expression(thing, "check"), False)


class Types(unittest.TestCase):
    def test_each_row(self):
        for expression, result, _ in ROWS:
            self.assertEqual(told_type(expression), result)

    def test_the_example(self):
        found = type_of(
            ("call", ("app", "tax"), (("column", "net"),)), columns={"net": "int"},
            functions={("app", "tax"): (("int",), "text")},
        )
        self.assertEqual(found, "text")

    def test_parts_of_other_types(self):
        some = {"int": ONE, "text": TEXT, "truth": TRUE}
        wanted = {
            "add": ("int", "int"), "join": ("text", "text"), "less": ("int", "int"), "equal": ("int", "int"),
            "alike": ("text", "text"), "and": ("truth", "truth"),
        }
        results = {"add": "int", "join": "text", "less": "truth", "equal": "truth", "alike": "truth", "and": "truth"}
        for word in wanted:
            for one in some:
                for other in some:
                    found = results[word] if (one, other) == wanted[word] else None
                    self.assertEqual(type_of((word, some[one], some[other])), found)
        self.assertEqual([type_of(("not", some[one])) for one in ["int", "text", "truth"]], [None, None, "truth"])

    def test_misfits_deep_within(self):
        self.assertIsNone(type_of(("not", ("and", TRUE, ("less", ONE, ("add", ONE, TEXT))))))
        self.assertEqual(type_of(("not", ("and", TRUE, ("less", ONE, ("add", ONE, ONE))))), "truth")
        self.assertIsNone(told_type(("call", "tax", (ONE, ("join", TEXT, ONE)))))

    def test_what_is_not_told(self):
        for expression in [("column", "net"), ("value",), ("param", 0), ("call", "f", ()), ("call", ("app", "f"), ())]:
            self.assertIsNone(type_of(expression))
            self.assertIsNone(type_of(expression, columns=None, value=None, params=(), functions=None))
            self.assertIsNone(type_of(("not", expression)))
        self.assertIsNone(told_type(("column", "other")))
        self.assertIsNone(type_of(("column", "net"), columns={}, value="int", params=("int",)))
        self.assertIsNone(type_of(("value",), columns={"value": "int"}, params=("int",)))
        self.assertIsNone(type_of(("call", "f", ()), functions={}))

    def test_params(self):
        found = [type_of(("param", k), params=("int", "text", "int")) for k in range(4)]
        self.assertEqual(found, ["int", "text", "int", None])
        self.assertEqual(type_of(("param", 3), params=("int", "int", "int", "text")), "text")

    def test_columns_and_values(self):
        self.assertEqual([told_type(("column", "net")), told_type(("column", "who"))], ["int", "text"])
        self.assertEqual([type_of(("value",), value=base) for base in ["int", "text"]], ["int", "text"])

    def test_functions_under_names_and_tuples(self):
        functions = {"f": ((), "int"), ("app", "f"): ((), "text")}
        self.assertEqual(type_of(("call", "f", ()), functions=functions), "int")
        self.assertEqual(type_of(("call", ("app", "f"), ()), functions=functions), "text")
        self.assertIsNone(type_of(("call", ("old", "f"), ()), functions=functions))
        self.assertIsNone(type_of(("call", ("app", "f"), ()), functions={"f": ((), "int")}))

    def test_another_number_of_arguments_than_of_parameters(self):
        functions = {"f": (("int", "int"), "truth"), "g": ((), "int")}
        for many in range(5):
            found = type_of(("call", "f", (ONE,) * many), functions=functions)
            self.assertEqual(found, "truth" if many == 2 else None)
            found = type_of(("call", "g", (ONE,) * many), functions=functions)
            self.assertEqual(found, None if many else "int")

    def test_arguments_of_other_types(self):
        self.assertIsNone(told_type(("call", "tax", (TEXT, ONE))))
        self.assertIsNone(told_type(("call", "tax", (ONE, TRUE))))
        self.assertEqual(told_type(("call", "tax", (("column", "net"), ("param", 1)))), "truth")

    def test_a_result_that_is_a_truth(self):
        functions = {"f": ((), "truth")}
        self.assertEqual(type_of(("and", ("call", "f", ()), TRUE), functions=functions), "truth")
        self.assertIsNone(type_of(("add", ("call", "f", ()), ONE), functions=functions))

    def test_what_is_told_stays(self):
        told = copy.deepcopy(TOLD)
        for expression, _, _ in ROWS:
            type_of(expression, **told)
        self.assertEqual(told, TOLD)


class Contents(unittest.TestCase):
    def test_none(self):
        for expression in [ONE, TEXT, ("value",), ("param", 0), sums(29), ("not", TRUE)]:
            self.assertEqual([columns_in(expression), refs_in(expression)], [[], []])

    def test_columns_from_left_to_right_each_once(self):
        net, who, sum_ = ("column", "net"), ("column", "who"), ("column", "sum")
        self.assertEqual(columns_in(net), ["net"])
        self.assertEqual(columns_in(("add", ("add", who, net), ("add", who, sum_))), ["who", "net", "sum"])
        self.assertEqual(columns_in(("call", "f", (sum_, ("call", "g", (net, sum_)), who))), ["sum", "net", "who"])

    def test_texts_and_refs_are_no_columns(self):
        self.assertEqual(columns_in(("call", "column", (("text", "column"), ("next", "net")))), [])

    def test_refs_from_left_to_right_a_calls_own_ahead(self):
        inner = ("call", "g", (("next", "ids"), ("call", "h", ())))
        expression = ("add", ("call", ("app", "f"), (inner, ("next", ("app", "ids")))), ("call", "k", ()))
        self.assertEqual(refs_in(expression), [
            ("function", ("app", "f")), ("function", "g"), ("sequence", "ids"), ("function", "h"),
            ("sequence", ("app", "ids")), ("function", "k"),
        ])

    def test_refs_that_stand_several_times(self):
        expression = ("call", "f", (("call", "g", (("call", "f", ()),)), ("next", "g"), ("next", "g"), ("call", "g", ())))
        self.assertEqual(refs_in(expression), [("function", "f"), ("function", "g"), ("sequence", "g")])

    def test_names_and_tuples_are_several_refs(self):
        expression = ("add", ("call", "f", ()), ("add", ("call", ("app", "f"), ()), ("call", ("old", "f"), ())))
        self.assertEqual(refs_in(expression), [("function", "f"), ("function", ("app", "f")), ("function", ("old", "f"))])

    def test_returned_lists_are_the_callers(self):
        expression = ("call", "f", (("column", "net"),))
        columns_in(expression).append("who")
        refs_in(expression).clear()
        self.assertEqual([columns_in(expression), refs_in(expression)], [["net"], [("function", "f")]])
