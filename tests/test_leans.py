"""[50] leans."""

import itertools
import unittest

from leancatalog.errors import NoItem
from leancatalog.leans import is_ring, leaners_by, ring, supports
from tests.stub import Odd, Stub, all_sorts, need

APP = ("schema", "app")
MONEY = ("domain", "app", "money")
IDS = ("sequence", "app", "ids")
ORDERS = ("table", "app", "orders")
NET = ("column", "app", "orders", "net")
WHO = ("column", "app", "orders", "who")
SUM = ("column", "app", "orders", "sum")
START = ("default", "app", "orders", "net")
CHEAP = ("check", "app", "orders", "cheap")
BYNET = ("index", "app", "bynet")
NETS = ("view", "app", "nets")
TOPS = ("view", "app", "tops")
TAX = ("function", "app", "tax")
ROUND = ("function", "app", "round")
ALONE = ("schema", "old")
NONE = ("table", "app", "none")


def shop():
    """A valid catalog in which each sort of lean occurs."""
    return Stub({
        APP: [],
        ALONE: [],
        MONEY: [need(APP), need(ROUND, wanted=(("int",), "truth"))],
        IDS: [need(APP), need(NET, "owned")],
        ORDERS: [need(APP)],
        NET: [need(ORDERS, "owned"), need(MONEY, wanted="int")],
        WHO: [need(ORDERS, "owned")],
        SUM: [need(ORDERS, "owned"), need(NET, part="plain", wanted="int"), need(TAX, wanted=(("int",), "int"))],
        START: [need(NET, "owned", wanted="int"), need(IDS)],
        CHEAP: [need(ORDERS, "owned"), need(NET, "soft", wanted="int")],
        BYNET: [need(APP), need(ORDERS, "owned"), need(NET, "soft", wanted="int"), need(WHO, "soft", wanted="text"),
                need(TAX, wanted=(("int",), "int"))],
        NETS: [need(APP), need(ORDERS), need(NET, wanted="int")],
        TOPS: [need(APP), need(NETS, wanted=("below", 2)), need(NETS, part="n", wanted="int")],
        TAX: [need(APP), need(TAX, wanted=(("int",), "int")), need(ROUND, wanted=(("int",), "truth"))],
        ROUND: [need(APP)],
    })


def function(name):
    return ("function", "app", name)


def calling(calls):
    """A catalog of functions that call one another as the dict from names to names tells, and of two other items."""
    items = {APP: [], ORDERS: [need(APP)]}
    for name in calls:
        items[function(name)] = [need(APP)] + [need(function(other), wanted=((), "int")) for other in calls[name]]
    return Stub(items)


def functions(names):
    return [function(name) for name in names]


def all_rings(calls):
    """Every list of names that is a ring, by trying all lists."""
    found = []
    for many in range(2, len(calls) + 1):
        for names in itertools.permutations(sorted(calls), many):
            if all(names[at] in calls[names[at - 1]] for at in range(many)):
                found.append(list(names))
    return found


class LeanersBy(unittest.TestCase):
    def test_each_of_the_three_words(self):
        catalog = shop()
        self.assertEqual(leaners_by(catalog, NET, "hard"), [SUM, NETS])
        self.assertEqual(leaners_by(catalog, NET, "soft"), [CHEAP, BYNET])
        self.assertEqual(leaners_by(catalog, NET, "owned"), [START, IDS])
        self.assertEqual(leaners_by(catalog, ORDERS, "hard"), [NETS])
        self.assertEqual(leaners_by(catalog, ORDERS, "soft"), [])
        self.assertEqual(leaners_by(catalog, ORDERS, "owned"), [CHEAP, NET, SUM, WHO, BYNET])

    def test_no_leaners(self):
        for how in ["hard", "soft", "owned"]:
            self.assertEqual(leaners_by(shop(), ALONE, how), [])
            self.assertEqual(leaners_by(shop(), START, how), [])

    def test_several_needs_of_one_item_tell_its_address_once(self):
        self.assertEqual(leaners_by(shop(), NETS, "hard"), [TOPS])

    def test_an_item_that_leans_in_several_ways(self):
        catalog = Stub({ORDERS: [], CHEAP: [need(ORDERS, "owned"), need(ORDERS, "soft"), need(ORDERS)]})
        for how in ["hard", "soft", "owned"]:
            self.assertEqual(leaners_by(catalog, ORDERS, how), [CHEAP])

    def test_the_way_of_another_lean_does_not_count(self):
        catalog = Stub({ORDERS: [], NET: [need(ORDERS, "owned")], CHEAP: [need(ORDERS, "owned"), need(NET, "soft")]})
        self.assertEqual(leaners_by(catalog, ORDERS, "soft"), [])
        self.assertEqual(leaners_by(catalog, NET, "owned"), [])

    def test_an_item_does_not_lean_on_itself(self):
        self.assertEqual(leaners_by(shop(), TAX, "hard"), [SUM, BYNET])

    def test_no_item(self):
        for how in ["hard", "soft", "owned"]:
            with self.assertRaises(NoItem) as caught:
                leaners_by(shop(), NONE, how)
            self.assertEqual(caught.exception.address, NONE)

    def test_a_returned_list_is_the_callers(self):
        catalog = shop()
        leaners_by(catalog, NET, "hard").append(NONE)
        self.assertEqual(leaners_by(catalog, NET, "hard"), [SUM, NETS])


class Supports(unittest.TestCase):
    def test_several_steps(self):
        self.assertEqual(supports(shop(), TOPS), sorted([TOPS, NETS, ORDERS, NET, MONEY, ROUND, APP]))
        self.assertEqual(supports(shop(), START), sorted([START, NET, IDS, ORDERS, MONEY, ROUND, APP]))

    def test_each_way_of_leaning_counts(self):
        self.assertEqual(supports(shop(), BYNET), sorted([BYNET, APP, ORDERS, NET, WHO, TAX, ROUND, MONEY]))

    def test_an_item_alone_and_one_that_needs_itself(self):
        self.assertEqual(supports(shop(), ALONE), [ALONE])
        self.assertEqual(supports(shop(), TAX), [ROUND, TAX, APP])

    def test_a_ring_and_what_leans_on_it(self):
        catalog = calling({"a": "b", "b": "c", "c": "a", "d": "a", "e": ""})
        self.assertEqual(supports(catalog, function("b")), functions("abc") + [APP])
        self.assertEqual(supports(catalog, function("d")), functions("abcd") + [APP])

    def test_no_item(self):
        with self.assertRaises(NoItem) as caught:
            supports(shop(), NONE)
        self.assertEqual(caught.exception.address, NONE)

    def test_a_returned_list_is_the_callers(self):
        catalog = shop()
        supports(catalog, ALONE).clear()
        self.assertEqual(supports(catalog, ALONE), [ALONE])


class Rings(unittest.TestCase):
    def test_none(self):
        for catalog in [Stub({}), shop(), calling({"a": "bc", "b": "c", "c": ""})]:
            self.assertIsNone(ring(catalog))

    def test_a_function_that_calls_itself_alone(self):
        self.assertIsNone(ring(calling({"a": "a"})))
        self.assertIsNone(ring(calling({"a": "ab", "b": "b"})))

    def test_two_and_three_functions(self):
        self.assertEqual(ring(calling({"a": "b", "b": "a"})), functions("ab"))
        self.assertEqual(ring(calling({"a": "b", "b": "c", "c": "a"})), functions("abc"))
        self.assertEqual(ring(calling({"a": "c", "c": "b", "b": "a"})), functions("acb"))

    def test_a_function_that_also_calls_itself(self):
        self.assertEqual(ring(calling({"a": "ab", "b": "ab"})), functions("ab"))

    def test_the_shortest_comes_ahead_of_the_least(self):
        catalog = calling({"a": "b", "b": "c", "c": "a", "y": "z", "z": "y"})
        self.assertEqual(ring(catalog), functions("yz"))

    def test_two_shortest_rings(self):
        self.assertEqual(ring(calling({"a": "cd", "c": "a", "d": "a"})), functions("ac"))
        self.assertEqual(ring(calling({"b": "d", "d": "b", "c": "e", "e": "c"})), functions("bd"))
        catalog = calling({"a": "cd", "b": "a", "c": "z", "d": "b", "z": "a"})
        self.assertEqual(ring(catalog), functions("acz"))

    def test_against_all_lists_for_every_catalog_of_four_functions(self):
        pairs = list(itertools.permutations("abcd", 2))
        for bits in range(2 ** len(pairs)):
            calls = {name: [] for name in "abcd"}
            for at, (one, other) in enumerate(pairs):
                if bits >> at & 1:
                    calls[one].append(other)
            least = min(all_rings(calls), key=lambda names: (len(names), names), default=None)
            self.assertEqual(ring(calling(calls)), least if least is None else functions(least))

    def test_functions_between_two_rings(self):
        self.assertEqual(ring(calling({"b": "ac", "c": "b", "a": "d", "d": "e", "e": "d"})), functions("bc"))
        self.assertEqual(ring(calling({"a": "bd", "b": "c", "c": "a", "d": "e", "e": "f", "f": "g", "g": "e"})), functions("abc"))
        self.assertEqual(ring(calling({"b": "c", "c": "de", "d": "b", "a": "g", "e": "a", "f": "g", "g": "hf", "h": "f"})), functions("fg"))

    def test_items_that_are_no_functions(self):
        one, other = ("table", "app", "f"), ("table", "app", "g")
        items = {one: [need(other)], other: [need(one)]}
        self.assertIsNone(ring(Stub(items)))
        items.update({function(name): [need(function(after)), need(one)] for name, after in zip("abc", "bca")})
        self.assertEqual(ring(Stub(items)), functions("abc"))

    def test_functions_of_several_schemas(self):
        one, other = ("function", "app", "f"), ("function", "old", "f")
        self.assertEqual(ring(Stub({other: [need(one)], one: [need(other)]})), [one, other])

    def test_a_returned_list_is_the_callers(self):
        catalog = calling({"a": "b", "b": "a"})
        ring(catalog).reverse()
        self.assertEqual(ring(catalog), functions("ab"))

    def test_many_functions(self):
        names = ["f" + one + other for one in "abcdefghij" for other in "abcdefghijkl"]
        catalog = calling({name: [names[(at + step) % 120] for step in [1, 7]] for at, name in enumerate(names)})
        self.assertEqual(len(ring(catalog)), 18)
        self.assertIs(is_ring(catalog, ring(catalog)), True)


class IsRing(unittest.TestCase):
    def setUp(self):
        self.catalog = calling({"a": "b", "b": "cd", "c": "a", "d": "bd", "e": "e"})

    def test_rings_begun_anywhere(self):
        for names in ["abc", "bca", "cab", "bd", "db"]:
            self.assertIs(is_ring(self.catalog, functions(names)), True)

    def test_lists_that_are_none(self):
        for names in ["", "a", "d", "e", "dd", "ac", "acb", "cba", "abd", "ab", "abcabc", "bdbd", "abcdb", "ef", "ff"]:
            self.assertIs(is_ring(self.catalog, functions(names)), False)

    def test_against_all_lists(self):
        calls = {"a": "bc", "b": "ad", "c": "ab", "d": "dc"}
        catalog, rings = calling(calls), all_rings(calls)
        for many in range(6):
            for names in itertools.product("abcd", repeat=many):
                self.assertIs(is_ring(catalog, functions(names)), list(names) in rings)

    def test_a_tuple_and_names_alone(self):
        self.assertIs(is_ring(self.catalog, tuple(functions("abc"))), False)
        self.assertIs(is_ring(self.catalog, ["a", "b", "c"]), False)
        self.assertIs(is_ring(self.catalog, [list(item) for item in functions("abc")]), False)

    def test_items_that_are_no_functions(self):
        self.assertIs(is_ring(self.catalog, functions("abc") + [APP]), False)
        self.assertIs(is_ring(self.catalog, [ORDERS, APP]), False)
        one, other = ("table", "app", "f"), ("table", "app", "g")
        self.assertIs(is_ring(Stub({one: [need(other)], other: [need(one)]}), [one, other]), False)

    def test_functions_that_are_not_there(self):
        self.assertIs(is_ring(self.catalog, functions("xy")), False)
        self.assertIs(is_ring(self.catalog, functions("abcx")), False)
        self.assertIs(is_ring(Stub({}), functions("ab")), False)

    def test_other_sorts(self):
        for thing in all_sorts():
            self.assertIs(is_ring(self.catalog, thing), False)
            self.assertIs(is_ring(self.catalog, functions("abc") + [thing]), False)
            self.assertIs(is_ring(self.catalog, [thing, thing]), False)
        self.assertIs(is_ring(self.catalog, [Odd(), Odd()]), False)

    def test_what_is_asked_about_stays(self):
        thing = functions("bca")
        is_ring(self.catalog, thing)
        self.assertEqual(thing, functions("bca"))
