"""[51] to [54] falls, with [9]."""

import itertools
import unittest

from leancatalog.errors import NoItem
from leancatalog.falls import blocked, chain, falls, is_chain, is_order, order, taken
from tests.stub import Odd, Stub, all_sorts, need
from tests.test_leans import (
    ALONE, APP, BYNET, CHEAP, IDS, MONEY, NET, NETS, NONE, ORDERS, ROUND, START, SUM, TAX, TOPS, WHO, calling, function,
    functions, shop,
)

OTHER_NONE = ("view", "app", "none")


def table(name):
    return ("table", "app", name)


def leaning(leans, how="hard"):
    """A catalog of tables of which each one leans on others as the dict from names to names tells."""
    return Stub({table(name): [need(table(other), how) for other in leans[name]] for name in leans})


def tables(names):
    return [table(name) for name in names]


def all_leans(names):
    """Every dict from names to those of the names behind them, so that there is no ring."""
    pairs = list(itertools.combinations(names, 2))
    for bits in range(2 ** len(pairs)):
        leans = {name: [] for name in names}
        for at, (one, other) in enumerate(pairs):
            if bits >> at & 1:
                leans[one].append(other)
        yield leans


def all_chains(leans, first, last):
    """Every list of names that is a chain of leans from first to last, by trying all lists."""
    found = []
    for many in range(1, len(leans) + 1):
        for names in itertools.permutations(sorted(leans), many):
            if names[0] == first and names[-1] == last:
                if all(after in leans[name] for name, after in zip(names, names[1:])):
                    found.append(list(names))
    return found


class Fallen(unittest.TestCase):
    def test_several_steps(self):
        self.assertEqual(falls(shop(), NETS), [NETS, TOPS])
        self.assertEqual(falls(shop(), MONEY), sorted([MONEY, NET, IDS, SUM, START, CHEAP, BYNET, NETS, TOPS]))

    def test_each_way_of_leaning(self):
        for how in ["hard", "soft", "owned"]:
            self.assertEqual(falls(leaning({"a": "", "b": "a", "c": "b", "d": ""}, how), table("a")), tables("abc"))

    def test_items_that_lean_in_several_ways(self):
        self.assertEqual(falls(shop(), NET), sorted([NET, IDS, SUM, START, CHEAP, BYNET, NETS, TOPS]))

    def test_a_schema_takes_all_that_lies_in_it(self):
        self.assertEqual(falls(shop(), APP), [item for item in shop().addresses() if item != ALONE])

    def test_alone(self):
        for item in [ALONE, TOPS, SUM, BYNET, CHEAP, START]:
            self.assertEqual(falls(shop(), item), [item])

    def test_rings(self):
        catalog = calling({"a": "b", "b": "c", "c": "a", "d": "c", "e": "de", "f": "f"})
        self.assertEqual(falls(catalog, function("b")), functions("abcde"))
        self.assertEqual(falls(catalog, function("e")), functions("e"))
        self.assertEqual(falls(catalog, function("f")), functions("f"))

    def test_exactly_what_leans_through_any_number_of_needs(self):
        for leans in all_leans("edcba"):
            catalog = leaning(leans)
            for last in leans:
                wanted = [table(first) for first in sorted(leans) if all_chains(leans, first, last)]
                self.assertEqual(falls(catalog, table(last)), wanted)


    def test_no_valid_rest_without_the_item_keeps_one_of_them(self):
        rests = [rest for many in range(6) for rest in itertools.combinations("abcde", many)]
        for leans in all_leans("edcba"):
            catalog = leaning(leans)
            valid = [rest for rest in rests if all(other in rest for name in rest for other in leans[name])]
            for last in leans:
                kept = {name for rest in valid if last not in rest for name in rest}
                self.assertEqual(falls(catalog, table(last)), tables(sorted(set(leans) - kept)))


class TakenAlong(unittest.TestCase):
    def test_soft_and_owned_leans_alone(self):
        self.assertEqual(taken(shop(), NET), sorted([NET, IDS, START, CHEAP, BYNET]))
        self.assertEqual(taken(shop(), ORDERS), sorted([ORDERS, NET, WHO, SUM, CHEAP, BYNET, IDS, START]))

    def test_hard_leans_do_not_count(self):
        for item in [MONEY, TAX, ROUND, NETS, IDS, APP]:
            self.assertEqual(taken(shop(), item), [item])

    def test_whatever_else_they_lean_on(self):
        catalog = Stub({
            table("a"): [], table("b"): [], table("c"): [need(table("a"), "soft"), need(table("b"))],
            table("d"): [need(table("c"), "owned"), need(table("a")), need(table("b"))], table("e"): [need(table("d"))],
        })
        self.assertEqual(taken(catalog, table("a")), tables("acd"))
        self.assertEqual(taken(catalog, table("b")), tables("b"))

    def test_an_item_that_leans_hard_and_softly(self):
        for how in ["soft", "owned"]:
            catalog = Stub({table("a"): [], table("b"): [need(table("a")), need(table("a"), how)]})
            self.assertEqual(taken(catalog, table("a")), tables("ab"))

    def test_soft_leans_behind_a_hard_one(self):
        catalog = Stub({table("a"): [], table("b"): [need(table("a"))], table("c"): [need(table("b"), "soft")]})
        self.assertEqual(taken(catalog, table("a")), tables("a"))
        self.assertEqual(taken(catalog, table("b")), tables("bc"))


class Blocked(unittest.TestCase):
    def test_alone(self):
        self.assertEqual(blocked(shop(), NET, "alone"), CHEAP)
        self.assertEqual(blocked(shop(), ROUND, "alone"), CHEAP)
        self.assertEqual(blocked(shop(), NETS, "alone"), TOPS)
        self.assertIsNone(blocked(shop(), TOPS, "alone"))
        self.assertIsNone(blocked(shop(), ALONE, "alone"))

    def test_restrict(self):
        self.assertEqual(blocked(shop(), NET, "restrict"), SUM)
        self.assertEqual(blocked(shop(), ORDERS, "restrict"), NETS)
        self.assertEqual(blocked(shop(), IDS, "restrict"), START)
        self.assertIsNone(blocked(shop(), WHO, "restrict"))
        self.assertIsNone(blocked(shop(), TOPS, "restrict"))

    def test_restrict_is_barred_by_what_leans_hard_on_what_is_taken_along(self):
        catalog = Stub({table("a"): [], table("c"): [need(table("a"), "owned")], table("b"): [need(table("c"))]})
        self.assertEqual(blocked(catalog, table("a"), "restrict"), table("b"))
        self.assertEqual(blocked(catalog, table("a"), "alone"), table("b"))

    def test_alone_is_barred_where_restrict_is_not(self):
        self.assertEqual(blocked(shop(), WHO, "alone"), BYNET)

    def test_cascade(self):
        for item in shop().addresses():
            self.assertIsNone(blocked(shop(), item, "cascade"))

    def test_the_item_itself_does_not_bar(self):
        catalog = calling({"a": "ac", "b": "", "c": "c"})
        self.assertIsNone(blocked(catalog, function("a"), "alone"))
        self.assertIsNone(blocked(catalog, function("a"), "restrict"))
        self.assertEqual(blocked(catalog, function("c"), "alone"), function("a"))
        for way in ["alone", "restrict"]:
            self.assertEqual(blocked(calling({"a": "b", "b": "a"}), function("a"), way), function("b"))
            self.assertEqual(blocked(calling({"a": "b", "b": "a"}), function("b"), way), function("a"))


class Chains(unittest.TestCase):
    def test_one_and_several_steps(self):
        self.assertEqual(chain(shop(), NET, NETS), [NETS, NET])
        self.assertEqual(chain(shop(), MONEY, TOPS), [TOPS, NETS, NET, MONEY])
        self.assertEqual(chain(shop(), ROUND, SUM), [SUM, TAX, ROUND])

    def test_an_item_to_itself(self):
        for item in shop().addresses():
            self.assertEqual(chain(shop(), item, item), [item])
        self.assertEqual(chain(calling({"a": "b", "b": "a"}), function("a"), function("a")), functions("a"))

    def test_none(self):
        self.assertIsNone(chain(shop(), NETS, NET))
        self.assertIsNone(chain(shop(), ALONE, NET))
        self.assertIsNone(chain(shop(), NET, ALONE))

    def test_the_shortest_comes_ahead_of_the_least(self):
        catalog = leaning({"z": "ab", "a": "c", "b": "y", "c": "y", "y": ""})
        self.assertEqual(chain(catalog, table("y"), table("z")), tables("zby"))

    def test_several_that_are_as_short(self):
        catalog = leaning({"z": "cb", "b": "f", "c": "de", "d": "y", "e": "y", "f": "y", "y": ""})
        self.assertEqual(chain(catalog, table("y"), table("z")), tables("zbfy"))
        catalog = leaning({"z": "ab", "a": "d", "b": "c", "c": "y", "d": "x", "x": "y", "y": ""})
        self.assertEqual(chain(catalog, table("y"), table("z")), tables("zbcy"))

    def test_through_a_ring(self):
        catalog = calling({"a": "b", "b": "c", "c": "ad", "d": ""})
        self.assertEqual(chain(catalog, function("d"), function("a")), functions("abcd"))
        self.assertEqual(chain(catalog, function("b"), function("c")), functions("cab"))

    def test_against_all_lists(self):
        for leans in all_leans("ebdca"):
            catalog = leaning(leans)
            for first, last in itertools.product(leans, repeat=2):
                found = all_chains(leans, first, last)
                least = min(found, key=lambda names: (len(names), names), default=None)
                told = least if least is None else tables(least)
                self.assertEqual(chain(catalog, table(last), table(first)), told)


class IsChain(unittest.TestCase):
    def test_right_ones_that_are_not_the_shortest(self):
        for thing in [[TOPS, NETS, NET, MONEY], [TOPS, NETS, NET, MONEY, ROUND]]:
            self.assertIs(is_chain(shop(), thing[-1], TOPS, thing), True)
        for thing in [[SUM, TAX, ROUND], [SUM, NET, MONEY, ROUND]]:
            self.assertIs(is_chain(shop(), ROUND, SUM, thing), True)

    def test_an_item_out_twice_or_exchanged(self):
        right = [TOPS, NETS, NET, MONEY]
        for thing in [
            [TOPS, NET, MONEY], [TOPS, NETS, MONEY], [NETS, NET, MONEY], [TOPS, NETS, NET], [TOPS, NETS, NETS, NET, MONEY],
            [TOPS, TOPS, NETS, NET, MONEY], [TOPS, NETS, NET, MONEY, MONEY], [TOPS, NET, NETS, MONEY],
            [NETS, TOPS, NET, MONEY], right[::-1], right + right, [TOPS, MONEY], [TOPS], [MONEY], [], right + [ROUND],
            [NONE] + right, [TOPS, NONE, NETS, NET, MONEY], [TOPS, OTHER_NONE, MONEY],
        ]:
            self.assertIs(is_chain(shop(), MONEY, TOPS, thing), False)
        self.assertIs(is_chain(shop(), MONEY, TOPS, right), True)

    def test_the_other_way_about(self):
        self.assertIs(is_chain(shop(), NET, NETS, [NETS, NET]), True)
        self.assertIs(is_chain(shop(), NETS, NET, [NETS, NET]), False)
        self.assertIs(is_chain(shop(), NETS, NET, [NET, NETS]), False)

    def test_an_item_to_itself(self):
        catalog = calling({"a": "ab", "b": "a"})
        a = function("a")
        self.assertIs(is_chain(catalog, a, a, [a]), True)
        for names in ["aa", "aba", "b", "", "ab", "ba"]:
            self.assertIs(is_chain(catalog, a, a, functions(names)), False)

    def test_a_ring_gone_around(self):
        catalog = calling({"a": "b", "b": "ac", "c": ""})
        self.assertIs(is_chain(catalog, function("c"), function("a"), functions("abc")), True)
        self.assertIs(is_chain(catalog, function("c"), function("a"), functions("ababc")), False)

    def test_against_all_lists(self):
        leans = {"a": "bc", "b": "cd", "c": "ad", "d": "bd"}
        catalog = calling(leans)
        for first, last in itertools.product(leans, repeat=2):
            chains = all_chains(leans, first, last)
            for many in range(6):
                for names in itertools.product(leans, repeat=many):
                    told = is_chain(catalog, function(last), function(first), functions(names))
                    self.assertIs(told, list(names) in chains)

    def test_a_tuple(self):
        self.assertIs(is_chain(shop(), NET, NETS, (NETS, NET)), False)
        self.assertIs(is_chain(shop(), NET, NETS, [list(NETS), list(NET)]), False)

    def test_other_sorts(self):
        for thing in all_sorts() + [Odd(), [Odd()], [Odd(), Odd()]]:
            self.assertIs(is_chain(shop(), NET, NETS, thing), False)
            self.assertIs(is_chain(shop(), NET, NETS, [NETS, thing, NET]), False)
            self.assertIs(is_chain(shop(), NET, NET, [thing]), False)

    def test_what_is_asked_about_stays(self):
        thing = [NETS, NET]
        is_chain(shop(), NET, NETS, thing)
        self.assertEqual(thing, [NETS, NET])


class Orders(unittest.TestCase):
    def test_alone(self):
        self.assertEqual(order(shop(), ALONE), ("order", [ALONE]))
        self.assertEqual(order(shop(), TOPS), ("order", [TOPS]))

    def test_several_steps(self):
        self.assertEqual(order(shop(), NETS), ("order", [TOPS, NETS]))
        self.assertEqual(order(shop(), NET), ("order", [CHEAP, SUM, START, BYNET, IDS, TOPS, NETS, NET]))

    def test_where_several_are_possible(self):
        catalog = leaning({"z": "", "a": "z", "b": "z", "d": "c", "c": "z"})
        self.assertEqual(order(catalog, table("z")), ("order", tables("abdcz")))
        catalog = leaning({"a": "", "b": "a", "c": "b", "d": "a"})
        self.assertEqual(order(catalog, table("a")), ("order", tables("cbda")))

    def test_a_function_that_calls_itself_does_not_stop(self):
        catalog = calling({"a": "ac", "c": "c"})
        self.assertEqual(order(catalog, function("c")), ("order", functions("ac")))

    def test_rings_stop(self):
        catalog = calling({"a": "b", "b": "c", "c": "a", "d": "c", "e": "d"})
        for name in "abc":
            self.assertEqual(order(catalog, function(name)), ("ring", functions("abc")))
        self.assertEqual(order(catalog, function("d")), ("order", functions("ed")))
        self.assertEqual(order(catalog, APP), ("ring", functions("abc")))

    def test_rings_that_lean_on_the_item(self):
        catalog = calling({"a": "b", "b": "az", "z": ""})
        self.assertEqual(order(catalog, function("z")), ("ring", functions("ab")))

    def test_the_shortest_ring_of_functions_that_fall(self):
        catalog = calling({
            "a": "b", "b": "a", "c": "d", "d": "ez", "e": "c", "f": "g", "g": "fz", "h": "i", "i": "hz", "z": "",
        })
        self.assertEqual(order(catalog, function("z")), ("ring", functions("fg")))
        self.assertEqual(order(catalog, function("c")), ("ring", functions("cde")))
        self.assertEqual(order(catalog, function("a")), ("ring", functions("ab")))
        self.assertEqual(order(catalog, APP), ("ring", functions("ab")))

    def test_a_ring_elsewhere_does_not_stop(self):
        catalog = calling({"a": "b", "b": "a", "c": "", "d": "ca"})
        self.assertEqual(order(catalog, function("c")), ("order", functions("dc")))
        self.assertEqual(order(catalog, function("d")), ("order", functions("d")))

    def test_against_all_lists(self):
        for leans in all_leans("bdac"):
            catalog = leaning(leans)
            for last in leans:
                fallen = falls(catalog, table(last))
                rights = [list(items) for items in itertools.permutations(fallen) if can_be_dropped(catalog, items)]
                self.assertEqual(order(catalog, table(last)), ("order", min(rights)))
                for items in itertools.permutations(fallen):
                    self.assertIs(is_order(catalog, table(last), list(items)), list(items) in rights)

    def test_against_a_catalog_with_as_many_items_as_can_be(self):
        names = ["t" + one + other for one in "abcdefghij" for other in "abcdefghijkl"]
        catalog = leaning({name: names[max(at - 29, 0):at] for at, name in enumerate(names)})
        self.assertEqual(order(catalog, table(names[0])), ("order", tables(names[::-1])))
        self.assertIs(is_order(catalog, table(names[0]), tables(names[::-1])), True)


def can_be_dropped(catalog, items):
    """Whether no item is leaned on by itself or by one that stands behind it."""
    return all(leaner in items[:at] for at, item in enumerate(items) for leaner in catalog.leaners(item))


class IsOrder(unittest.TestCase):
    def test_right_ones(self):
        for thing in [[CHEAP, SUM, START, BYNET, IDS, TOPS, NETS, NET], [TOPS, NETS, START, IDS, BYNET, SUM, CHEAP, NET]]:
            self.assertIs(is_order(shop(), NET, thing), True)
        self.assertIs(is_order(shop(), ALONE, [ALONE]), True)

    def test_an_item_out_twice_or_exchanged(self):
        right = order(shop(), NET)[1]
        for at in range(len(right)):
            self.assertIs(is_order(shop(), NET, right[:at] + right[at + 1:]), False)
            self.assertIs(is_order(shop(), NET, right[:at] + [right[at]] + right[at:]), False)
            self.assertIs(is_order(shop(), NET, right[:at] + [NONE] + right[at + 1:]), False)
            self.assertIs(is_order(shop(), NET, right[:at] + [NONE] + right[at:]), False)
            self.assertIs(is_order(shop(), NET, right[:at] + [WHO] + right[at:]), False)
        self.assertIs(is_order(shop(), NET, right[::-1]), False)
        self.assertIs(is_order(shop(), NET, [CHEAP, SUM, START, BYNET, IDS, NETS, TOPS, NET]), False)
        self.assertIs(is_order(shop(), NET, [CHEAP, SUM, IDS, BYNET, START, TOPS, NETS, NET]), False)

    def test_an_order_of_another_item(self):
        self.assertIs(is_order(shop(), NETS, [TOPS]), False)
        self.assertIs(is_order(shop(), TOPS, [TOPS, NETS]), False)

    def test_rings(self):
        catalog = calling({"a": "b", "b": "a", "c": "", "d": "dc"})
        for names in itertools.permutations("ab"):
            self.assertIs(is_order(catalog, function("a"), functions(names)), False)
        self.assertIs(is_order(catalog, function("c"), functions("dc")), True)
        self.assertIs(is_order(catalog, function("c"), functions("cd")), False)

    def test_a_tuple_and_what_order_returns(self):
        self.assertIs(is_order(shop(), NETS, (TOPS, NETS)), False)
        self.assertIs(is_order(shop(), NETS, ("order", [TOPS, NETS])), False)
        self.assertIs(is_order(shop(), NETS, ["order", [TOPS, NETS]]), False)
        self.assertIs(is_order(shop(), NETS, [list(TOPS), list(NETS)]), False)

    def test_other_sorts(self):
        for thing in all_sorts() + [Odd(), [Odd()], [Odd(), Odd()]]:
            self.assertIs(is_order(shop(), NETS, thing), False)
            self.assertIs(is_order(shop(), NETS, [TOPS, thing, NETS]), False)
            self.assertIs(is_order(shop(), NETS, [TOPS, thing]), False)

    def test_what_is_asked_about_stays(self):
        thing = [NETS, TOPS]
        is_order(shop(), NETS, thing)
        self.assertEqual(thing, [NETS, TOPS])


class NoItems(unittest.TestCase):
    def refused(self, address, asked, *arguments):
        with self.assertRaises(NoItem) as caught:
            asked(shop(), *arguments)
        self.assertEqual(caught.exception.address, address)

    def test_one_address(self):
        for asked in [falls, taken, order]:
            self.refused(NONE, asked, NONE)
        for way in ["alone", "restrict", "cascade"]:
            self.refused(NONE, blocked, NONE, way)

    def test_the_first_of_two_addresses(self):
        self.refused(NONE, chain, NONE, NET)
        self.refused(NONE, chain, NET, NONE)
        self.refused(NONE, chain, NONE, OTHER_NONE)
        self.refused(OTHER_NONE, chain, OTHER_NONE, NONE)
        self.refused(NONE, chain, NONE, NONE)

    def test_whatever_the_value(self):
        for thing in all_sorts() + [[NET], [NONE], [NET, NONE], [NONE, NET], Odd()]:
            self.refused(NONE, is_chain, NONE, NET, thing)
            self.refused(NONE, is_chain, NET, NONE, thing)
            self.refused(OTHER_NONE, is_chain, OTHER_NONE, NONE, thing)
            self.refused(NONE, is_order, NONE, thing)


class Returned(unittest.TestCase):
    def test_lists_are_the_callers(self):
        catalog = shop()
        rings = calling({"a": "b", "b": "a"})
        for asked in [
            lambda: falls(catalog, NETS), lambda: taken(catalog, NET), lambda: chain(catalog, MONEY, TOPS),
            lambda: order(catalog, NETS)[1], lambda: order(rings, function("a"))[1],
        ]:
            before = list(asked())
            asked().reverse()
            asked().append(NONE)
            asked().clear()
            self.assertEqual(asked(), before)
