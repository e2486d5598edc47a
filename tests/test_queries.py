"""[30] queries, with [4]."""

import unittest

from leancatalog.queries import is_query, sources_in
from tests.stub import Odd, all_sorts

TEN_18 = 10 ** 18
NET, WHO = ("of", "o", "net"), ("of", "o", "who")
SOURCES = (("o", "orders"),)


def part(sources=SOURCES, conditions=(), outputs=(NET,)):
    return (sources, conditions, outputs)


def one(**told):
    """A query of one part."""
    return (part(**told),)


class Parts(unittest.TestCase):
    def test_one_to_four(self):
        for many in range(7):
            self.assertIs(is_query((part(),) * many), 1 <= many <= 4)

    def test_three_parts_of_a_part(self):
        self.assertIs(is_query((part() + ((),),)), False)
        self.assertIs(is_query((part()[:2],)), False)
        self.assertIs(is_query(((),)), False)
        self.assertIs(is_query(part()), False)

    def test_equally_many_outputs(self):
        two, other = part(outputs=(NET, NET)), part(outputs=(WHO, ("text", "a")))
        self.assertIs(is_query((two, other)), True)
        self.assertIs(is_query((two, other, two, two)), True)
        self.assertIs(is_query((two, part())), False)
        self.assertIs(is_query((part(), part(), two)), False)
        self.assertIs(is_query((two, two, two, part())), False)

    def test_types_do_not_matter(self):
        self.assertIs(is_query((part(outputs=(("int", 1),)), part(outputs=(("text", "a"),)))), True)
        self.assertIs(is_query(one(conditions=((NET, ("int", 1)), (NET, ("text", "a"))))), True)

    def test_each_part_has_aliases_of_its_own(self):
        bills = part(sources=(("b", "bills"),), outputs=(("of", "b", "net"),))
        self.assertIs(is_query((part(), bills)), True)
        self.assertIs(is_query((part(), part(sources=(("b", "bills"),)))), False)
        self.assertIs(is_query((part(), part(sources=(("o", "bills"),)))), True)


class Sources(unittest.TestCase):
    def test_one_to_three(self):
        for many in range(6):
            sources = tuple((alias, "orders") for alias in "opqrs"[:many])
            self.assertIs(is_query(one(sources=sources, outputs=(("int", 1),))), 1 <= many <= 3)

    def test_different_aliases(self):
        self.assertIs(is_query(one(sources=(("o", "orders"), ("p", "orders")))), True)
        self.assertIs(is_query(one(sources=(("o", "orders"), ("o", "bills")))), False)
        self.assertIs(is_query(one(sources=(("o", "orders"), ("p", "orders"), ("o", "orders")))), False)

    def test_refs_and_aliases(self):
        for ref in ["orders", ("app", "orders"), "o", ("a", "b")]:
            self.assertIs(is_query(one(sources=(("o", ref),))), True)
        for ref in ["Orders", ("app",), ["app", "orders"], ("app", "orders", "net"), None, 1, "", ("app", None), []]:
            self.assertIs(is_query(one(sources=(("o", ref),))), False)
        for alias in ["O", "", "abcdefghi", None, 1, ("o",), [], {}, ("app", "o")]:
            self.assertIs(is_query(one(sources=((alias, "orders"),), outputs=(("int", 1),))), False)

    def test_a_wrong_one_beside_right_ones(self):
        for source in [("p",), ("p", "Orders"), ("P", "orders"), ["p", "orders"], ("p", "orders", "net")]:
            for sources in [(("o", "orders"), source), (source, ("o", "orders")), (("o", "a"), ("q", "b"), source)]:
                self.assertIs(is_query(one(sources=sources)), False)

    def test_wrong_forms(self):
        for source in [("o",), ("o", "orders", "net"), (), ["o", "orders"], "oo", None, 1, {}]:
            self.assertIs(is_query(one(sources=(source,), outputs=(("int", 1),))), False)
        for sources in [[("o", "orders")], ("o", "orders"), "o", None, 1, {"o": "orders"}, ()]:
            self.assertIs(is_query(one(sources=sources, outputs=(("int", 1),))), False)


class Sides(unittest.TestCase):
    def test_of_an_alias_that_is_none_of_the_sources(self):
        for side in [("of", "p", "net"), ("of", "orders", "net"), ("of", "of", "net")]:
            self.assertIs(is_query(one(outputs=(side,))), False)
            self.assertIs(is_query(one(conditions=((side, NET),))), False)
            self.assertIs(is_query(one(conditions=((NET, side),))), False)

    def test_constants_at_their_bounds(self):
        for side in [("int", TEN_18), ("int", -TEN_18), ("int", 0), ("text", ""), ("text", "a" * 20), ("text", "A\n~")]:
            self.assertIs(is_query(one(outputs=(side,))), True)
            self.assertIs(is_query(one(conditions=((NET, side),))), True)
        for side in [
            ("int", TEN_18 + 1), ("int", -TEN_18 - 1), ("int", True), ("int", False), ("int", "1"), ("int",),
            ("int", 1, 1), ("text", "a" * 21), ("text", 1), ("text", None), ("text",), ("text", "a", "b"),
            ("text", b"a"),
        ]:
            self.assertIs(is_query(one(outputs=(side,))), False)
            self.assertIs(is_query(one(conditions=((NET, side),))), False)

    def test_other_expressions_are_no_sides(self):
        for side in [
            ("column", "net"), ("value",), ("param", 0), ("next", "ids"), ("add", ("int", 1), ("int", 1)),
            ("call", "f", ()), ("not", NET),
        ]:
            self.assertIs(is_query(one(outputs=(side,))), False)
            self.assertIs(is_query(one(conditions=((NET, side),))), False)

    def test_wrong_forms(self):
        for side in [
            ["of", "o", "net"], ("of", "o"), ("of", "o", "net", "a"), ("of", "o", "Net"), ("of", "o", None), ("of",),
            ("of", "o", ("o", "net")), ("as", "o", "net"), (None, "o", "net"), ("of", ["o"], "net"), (), None, 1, "of",
            ["int", 1], [["of"], "o", "net"], (["of"], "o", "net"), ([], 1), ({}, 1), "net", {},
        ]:
            self.assertIs(is_query(one(outputs=(side,))), False)
            self.assertIs(is_query(one(conditions=((NET, side),))), False)
            self.assertIs(is_query(one(conditions=((side, NET),))), False)


class Conditions(unittest.TestCase):
    def test_at_most_six(self):
        for many in range(9):
            self.assertIs(is_query(one(conditions=((NET, WHO),) * many)), many <= 6)

    def test_a_constant_as_one_of_the_sides(self):
        self.assertIs(is_query(one(conditions=((NET, ("int", 1)),))), True)
        self.assertIs(is_query(one(conditions=((("int", 1), NET),))), False)
        self.assertIs(is_query(one(conditions=((("int", 1), ("int", 1)),))), False)
        self.assertIs(is_query(one(conditions=((NET, NET), (("text", "a"), WHO)))), False)

    def test_wrong_forms(self):
        for condition in [(NET,), (NET, NET, NET), [NET, NET], NET, (), None, 1, ((NET, NET),), {}]:
            self.assertIs(is_query(one(conditions=(condition,))), False)
        for conditions in [[(NET, NET)], [], None, (NET, NET), "", {}, 0]:
            self.assertIs(is_query(one(conditions=conditions)), False)


class Outputs(unittest.TestCase):
    def test_one_to_six(self):
        for many in range(9):
            self.assertIs(is_query(one(outputs=(NET,) * many)), 1 <= many <= 6)

    def test_a_wrong_one_beside_right_ones(self):
        for side in [("of", "p", "net"), ("int", True), ["of", "o", "net"], None]:
            for outputs in [(NET, side), (side, NET), (NET, side, NET)]:
                self.assertIs(is_query(one(outputs=outputs)), False)

    def test_wrong_forms(self):
        for outputs in [[NET], NET, None, "net", {}, 1, ((NET,),)]:
            self.assertIs(is_query(one(outputs=outputs)), False)


class Other(unittest.TestCase):
    def test_lists_for_tuples(self):
        self.assertIs(is_query([part()]), False)
        self.assertIs(is_query((list(part()),)), False)

    def test_other_sorts(self):
        odd = [Odd(), (Odd(),), (Odd(), 1), (Odd(), "a"), (Odd(), "o", "net"), one(sources=(Odd(),)), one(outputs=(Odd(),))]
        for thing in all_sorts() + odd:
            self.assertIs(is_query(thing), False)
            self.assertIs(is_query((part(), thing)), False)
            self.assertIs(is_query((thing,)), False)
            self.assertIs(is_query(one(sources=thing)), False)
            self.assertIs(is_query(one(outputs=thing)), False)
            self.assertIs(is_query(one(outputs=(thing,))), False)
            self.assertIs(is_query(one(conditions=(thing,))), False)
            if thing != ():
                self.assertIs(is_query(one(conditions=thing)), False)


class SourcesIn(unittest.TestCase):
    def test_order_in_which_they_first_stand(self):
        two = part(sources=(("o", "orders"), ("b", ("app", "bills")), ("a", "ads")))
        self.assertEqual(sources_in((two,)), ["orders", ("app", "bills"), "ads"])

    def test_several_times_and_in_several_parts(self):
        first = part(sources=(("o", "z"), ("p", "z"), ("q", "y")))
        second = part(sources=(("o", "x"), ("p", "z")))
        third = part(sources=(("o", "y"), ("p", "w")))
        self.assertEqual(sources_in((first, second, third)), ["z", "y", "x", "w"])

    def test_names_and_tuples(self):
        query = one(sources=(("o", "orders"), ("p", ("app", "orders")), ("q", ("old", "orders"))))
        self.assertEqual(sources_in(query), ["orders", ("app", "orders"), ("old", "orders")])

    def test_a_returned_list_is_the_callers(self):
        query = one()
        sources_in(query).append("bills")
        self.assertEqual(sources_in(query), ["orders"])
