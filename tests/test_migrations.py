"""[81], [83] to [85] migrations, with [7], [14], [82]."""

import unittest

from leancatalog.catalogs import Catalog
from leancatalog.changes import done, run
from leancatalog.errors import CatalogError, TooMany
from leancatalog.events import choices, links, ring
from leancatalog.migrations import is_migration, is_tree, migrate, order
from tests.build import made, shop
from tests.drawn import where_of
from tests.pairs import (
    LASTING, address_of, catalog_of, caught_in_rings, choices_told, column, cost_told, drawn_pair, events_told, fewest, function,
    links_told, ring_told, state, tower, view,
)
from tests.stub import Odd, all_sorts, otherwise

V = ("view", "app", "v")
F, G = [("function", "app", name) for name in "fg"]


def states(catalog):
    return {address: state(catalog, address) for address in catalog.addresses()}


def order_told(one, other, choice):
    """The statements of the order, found step by step."""
    events, told, placed = events_told(one, other, choice), links_told(one, other, choice), []
    while len(placed) < len(events):
        free = [
            event for event in events if event not in placed
            and all(first in placed for first, later, _ in told if later == event)
        ]
        if not free:
            return None
        placed.append(min(free))
    ends = {"drop": lambda item: ("alone",), "create": lambda item: (other[item],), "replace": lambda item: (other[item], "alone")}
    return [(word, item[0], where_of(item), *ends[word](item)) for word, item in placed if word != "stay"]


def loops():
    """Catalogs with the functions f and g of one another, of no parameters and of an int, and with neither."""
    none = catalog_of()
    both = [
        run(catalog_of(function("f", params), function("g", params, ("f", params))), [
            ("replace", "function", "f", (params, "int", ("call", ("app", "g"), tuple(("int", 1) for _ in params))), "alone"),
        ]) for params in ((), ("int",))
    ]
    return none, *both


class Orders(unittest.TestCase):
    def test_nothing_to_do(self):
        self.assertEqual(order(shop(), shop(), []), [])
        self.assertEqual(order(shop(), made([("path", ())], shop()), []), [])
        self.assertEqual(order(Catalog(), Catalog(), []), [])

    def test_each_word(self):
        one = catalog_of(view("v", 1, "t", "a"), ("create", "sequence", "q", (("t", "b"),)), ("create", "domain", "d", ("int", None)))
        other = catalog_of(column("a", "text"), view("v", 1, "t", "a"), ("create", "sequence", "q", (None,)), function("f", ()))
        self.assertEqual(order(one, other, [V]), [
            ("create", "function", ("app", "f"), other["function", "app", "f"]),
            ("drop", "domain", ("app", "d"), "alone"),
            ("drop", "view", ("app", "v"), "alone"),
            ("replace", "column", (("app", "t"), "a"), ("text", None), "alone"),
            ("create", "view", ("app", "v"), other[V]),
            ("replace", "sequence", ("app", "q"), (None,), "alone"),
        ])
        self.assertIsNone(order(one, other, []))

    def test_stays_hold_their_place_and_are_no_statements(self):
        one = catalog_of(function("f", ()), function("g", (), ("f", ())))
        told = order(one, one, [F, G])
        self.assertEqual([(statement[0], statement[2]) for statement in told], [
            ("drop", ("app", "g")), ("drop", ("app", "f")), ("create", ("app", "f")), ("create", ("app", "g")),
        ])
        self.assertIsNone(order(one, one, [F]))

    def test_from_and_to_a_catalog_without_items(self):
        catalog = shop()
        made_from = order(Catalog(), catalog, [])
        self.assertEqual(states(run(Catalog(), made_from)), states(catalog))
        self.assertEqual(len(run(catalog, order(catalog, Catalog(), []))), 0)

    def test_none_for_a_choice_with_a_ring(self):
        none, plain, other = loops()
        for one, two in [(none, plain), (plain, none), (plain, other)]:
            self.assertIsNone(order(one, two, []))
        self.assertEqual(order(plain, plain, []), [])
        self.assertIsNone(order(plain, plain, [F, G]))

    def test_of_drawn_pairs(self):
        many = {True: 0, False: 0}
        for seed in range(200):
            pair = drawn_pair(seed, 18)
            if pair is None:
                continue
            drawing, one, other = pair
            least, free = choices(one, other)
            for choice in [least, free, sorted(set(least) | {item for item in free if drawing.chance(30)})]:
                told = order(one, other, choice)
                self.assertEqual(told, order_told(one, other, choice))
                self.assertIs(told is None, ring(one, other, choice) is not None)
                many[told is None] += 1
                if told is not None:
                    self.assertEqual(states(run(one, told)), states(other))
                    self.assertIs(is_migration(one, other, told), True)
        self.assertGreater(min(many.values()), 20)


def tree_told(one, other, choice, cost):
    """The tree with the rings of [82]; ("found", choice) if one of its choices has none."""
    if cost is not None and cost_told(one, other, choice) > cost:
        return None
    found = ring_told(links_told(one, other, choice))
    if found is None:
        raise Found(choice)
    free = choices_told(one, other)[1]
    wanted = sorted({link[0][1] for link in found if link[0][1] in free and link[0][1] not in choice})
    return found, [(address, tree_told(one, other, sorted(choice + [address]), cost)) for address in wanted]


class Found(Exception):
    pass


def size(tree):
    """The number of the rings in a tree."""
    return 0 if tree is None else 1 + sum(size(part) for _, part in tree[1])


def cut(tree):
    """Whether a choice costs too much for the tree."""
    return tree is None or any(cut(part) for _, part in tree[1])


class Trees(unittest.TestCase):
    def setUp(self):
        self.one = catalog_of(view("v", 1, "t", "a"), view("w", 2, "v", "a"))
        self.other = catalog_of(column("a", "text"), view("v", 1, "t", "a"), view("w", 2, "v", "a"))

    def test_what_costs_more(self):
        for choice, costs in [([], 0), ([V], 1)]:
            for cost in range(-1, 3):
                self.assertIs(is_tree(self.one, self.other, choice, cost, None), costs > cost)
            self.assertIs(is_tree(self.one, self.other, choice, None, None), False)
        self.assertIs(is_tree(self.one, self.one, [V], 1, None), True)
        self.assertIs(is_tree(self.one, self.one, [V], 2, None), False)

    def test_right_ones(self):
        for cost in range(-1, 2):
            tree = tree_told(self.one, self.other, [], cost)
            self.assertIs(is_tree(self.one, self.other, [], cost, tree), True)
            for other_cost in (*range(-1, 5), None):
                self.assertIs(is_tree(self.one, self.other, [], other_cost, tree), cost == other_cost)

    def test_any_ring_of_the_choice(self):
        found, parts = tree_told(self.one, self.other, [], 0)
        turned = found[1:] + found[:1]
        self.assertIs(is_tree(self.one, self.other, [], 0, (turned, parts)), True)
        self.assertIs(is_tree(self.one, self.other, [], 0, (found + found, parts)), False)
        self.assertIs(is_tree(self.one, self.other, [], 0, (found[:1], parts)), False)
        self.assertIs(is_tree(self.one, self.other, [], 0, ([], parts)), False)
        self.assertIs(is_tree(self.one, self.other, [], 0, (found[::-1], parts)), True)
        told = links(self.one, self.other, [])
        w_first = [link for link in told if ("replace", ("view", "app", "w")) in link[:2]]
        longer = [w_first[-1]] + [w_first[0]]
        self.assertIs(is_tree(self.one, self.other, [], 0, (longer, [])), False)
        tops = [("view", "app", "w"), None]
        wide = [link for link in told if link[:2] == (("replace", ("view", "app", "w")), ("replace", V))]
        wide += [link for link in told if link[:2] == (("replace", V), ("replace", ("view", "app", "w")))]
        self.assertEqual(len(wide), 2)
        self.assertIs(is_tree(self.one, self.other, [], 0, (wide, [(V, None), tuple(tops)])), True)
        self.assertIs(is_tree(self.one, self.other, [], 0, (wide, [tuple(tops), (V, None)])), False)
        self.assertIs(is_tree(self.one, self.other, [], 0, (wide, [(V, None)])), False)
        self.assertIs(is_tree(self.one, self.other, [], 0, (wide, [(V, None), tuple(tops), tuple(tops)])), False)

    def test_links_of_other_choices_and_whys(self):
        found, parts = tree_told(self.one, self.other, [], 0)
        (event, later, why), back = found
        for link in [(event, later, (why[0], why[1], why[2][:3] + ("soft",))), (event, later, ("again", V)), (event, later, ("old",) + why[1:]),
                     (later, event, why), (event, ("drop", V), why), (("stay", event[1]), later, why)]:
            self.assertIs(is_tree(self.one, self.other, [], 0, ([link, back], parts)), False)

    def test_true_for_one(self):
        one = catalog_of(view("v", 1, "t", "a"), view("w", 2, "v", "a"))
        other = catalog_of(view("v", 2, "t", "a"), ("create", "view", "w", (1, ("a",), (((("o", "t"),), (), (("of", "o", "a"),)),))))
        self.assertIsNone(ring(one, other, []))
        tall = catalog_of(column("a", "text"), view("v", 1, "t", "a"), view("w", 2, "v", "a"))
        tree = migrate(one, tall)[3]
        self.assertIs(is_tree(one, tall, [], 1, tree), True)
        for thing in otherwise(tree):
            self.assertIs(is_tree(one, tall, [], 1, thing), False)

    def test_spoiled_at_any_place(self):
        for seed in range(60):
            pair = drawn_pair(seed, 16)
            if pair is None:
                continue
            _, one, other = pair
            told = migrate(one, other)
            least = choices(one, other)[0]
            tree = told[-1]
            cost = None if told[0] == "none" else cost_told(one, other, told[2]) - 1
            self.assertIs(is_tree(one, other, least, cost, tree), True)
            for thing in list(otherwise(tree)) + all_sorts():
                if thing is not None or tree is not None:
                    self.assertIs(is_tree(one, other, least, cost, thing), thing is None and tree is None)
            if tree is not None:
                for at in range(len(tree[1])):
                    self.assertIs(is_tree(one, other, least, cost, (tree[0], tree[1][:at] + tree[1][at + 1:])), False)
                    self.assertIs(is_tree(one, other, least, cost, (tree[0], tree[1] + tree[1][at:at + 1])), False)
                self.assertIs(is_tree(one, other, least, cost, (tree[0][:-1], tree[1])), False)

    def test_of_other_values(self):
        for thing in all_sorts() + [(), ((), []), ([], []), (None, None), (Odd(), []), ([Odd()], []), ([Odd(), Odd()], [Odd()])]:
            self.assertIs(is_tree(self.one, self.other, [], 0, thing), thing is None and False)


class Migrating(unittest.TestCase):
    def check(self, one, other, **limit):
        """What migrate returns, held against [84] and [85]."""
        told = migrate(one, other, **limit)
        least = choices(one, other)[0]
        if told[0] == "none":
            self.assertEqual(told, ("none", tree_told(one, other, least, None)))
            self.assertIs(is_tree(one, other, least, None, told[1]), True)
            return told
        word, statements, choice, tree = told
        self.assertEqual(word, "order")
        self.assertEqual(statements, order(one, other, choice))
        self.assertIs(is_migration(one, other, statements), True)
        self.assertEqual(states(run(one, statements)), states(other))
        cost = cost_told(one, other, choice)
        self.assertEqual(tree, tree_told(one, other, least, cost - 1))
        self.assertIs(is_tree(one, other, least, cost - 1, tree), True)
        with self.assertRaises(Found) as caught:
            tree_told(one, other, least, cost)
        self.assertEqual(caught.exception.args, (choice,))
        return told

    def test_nothing_to_do(self):
        self.assertEqual(self.check(shop(), shop()), ("order", [], [], None))
        self.assertEqual(self.check(Catalog(), Catalog()), ("order", [], [], None))

    def test_without_a_ring(self):
        told = self.check(Catalog(), shop())
        self.assertEqual([len(told[1]), told[2:]], [len(shop()), ([], None)])
        self.assertEqual(len(self.check(shop(), Catalog())[1]), len(shop()))

    def test_what_has_to_be_in_each_choice(self):
        index = ("create", "index", "i", ("t", (("column", "a"),)))
        told = self.check(catalog_of(index), catalog_of(column("a", "text"), index))
        self.assertEqual(told[2:], ([("index", "app", "i")], None))

    def test_alike_items_that_are_in_the_way(self):
        one, other = tower(1, "int"), tower(1, "text")
        told = self.check(one, other)
        self.assertEqual(told[2], [("view", "app", "va"), ("view", "app", "wa")])
        self.assertEqual(len(told[1]), 5)
        self.assertEqual(fewest(one, other), 5)
        told = self.check(tower(4, "int"), tower(4, "text"))
        self.assertEqual(len(told[2]), 8)

    def test_the_choice_that_costs_less(self):
        one = catalog_of(function("f", ("int",)), function("g", (), ("f", ("int",))))
        other = catalog_of(function("f", ("text",)), function("g", (), ("f", ("text",))))
        self.assertEqual(self.check(one, other)[2], [G])
        self.assertEqual(fewest(one, other), 3)

    def test_functions_that_call_one_another_in_one_of_the_catalogs(self):
        none, plain, other = loops()
        for one, two in [(none, plain), (plain, none), (plain, other), (other, plain)]:
            told = self.check(one, two)
            self.assertEqual(told[0], "none")
            self.assertIsNone(fewest(one, two))
        self.assertEqual(self.check(none, plain)[1][1], [])
        self.assertGreater(size(migrate(plain, other)[1]), 1)
        self.assertEqual(self.check(plain, plain), ("order", [], [], None))

    def test_against_a_search_through_all_valid_states(self):
        many = {}
        for seed in range(360):
            pair = drawn_pair(seed, 10)
            if pair is None:
                continue
            _, one, other = pair
            best = fewest(one, other, 4000)
            if best == -1:
                continue
            told = self.check(one, other)
            self.assertEqual(len(told[1]) if told[0] == "order" else None, best)
            word = told[0] if told[0] == "none" else len(told[2])
            many[word] = many.get(word, 0) + 1
        self.assertGreater(many[0], 50)
        self.assertGreater(sum(many[word] for word in many if word not in (0, "none")), 7)

    def test_functions_and_views_in_rings_against_such_a_search(self):
        for one, other in [
            (caught_in_rings(2, "int"), caught_in_rings(2, "text")), (caught_in_rings(2, "text"), caught_in_rings(2, "int")),
            (run(caught_in_rings(1, "int"), [function("h", (), ("ga", ()))]), caught_in_rings(1, "text")),
            (run(caught_in_rings(1, "int"), [function("h", (), ("ga", ()))]), run(caught_in_rings(1, "text"), [function("h", (), ("ga", ()))])),
            (tower(1, "int"), tower(1, "text")), (tower(1, "text"), tower(1, "int")),
        ]:
            told = self.check(one, other)
            self.assertEqual(len(told[1]), fewest(one, other))
            self.assertGreater(len(told[2]), 0)

    def test_of_larger_pairs(self):
        words = {}
        for seed in range(120):
            pair = drawn_pair(seed + 1000, 40, "abcd")
            if pair is None:
                continue
            try:
                told = self.check(*pair[1:])
            except TooMany as error:
                self.assertEqual(error.limit, 60)
                told = ("limit",)
            words[told[0]] = words.get(told[0], 0) + 1
            if told[0] == "order" and told[2]:
                words["choice"] = words.get("choice", 0) + 1
        self.assertGreater(words["order"], 50)
        self.assertGreater(words["choice"], 20)

    def rings_met(self, one, other):
        """The choices with a ring that are come to for the cost for which these are most, up to the end of the search."""
        least, most, cost = choices(one, other)[0], [], cost_told(one, other, choices(one, other)[0])
        while True:
            met = []

            def look(choice):
                if cost_told(one, other, choice) > cost:
                    return True
                found = ring_told(links_told(one, other, choice))
                if found is None:
                    raise Found
                met.append(choice)
                free = choices_told(one, other)[1]
                wanted = sorted({link[0][1] for link in found if link[0][1] in free and link[0][1] not in choice})
                return any([look(sorted(choice + [address])) for address in wanted])

            try:
                more = look(least)
            except Found:
                return max(most, met, key=len)
            most = max(most, met, key=len)
            if not more:
                return most
            cost += 1

    def test_the_limit_just_above_and_just_below_the_rings_met(self):
        pairs = [(tower(2, "int"), tower(2, "text")), (caught_in_rings(3, "int"), caught_in_rings(3, "text")), loops()[1:], loops()[:2]]
        pairs += [drawn_pair(seed, 30, "abcd")[1:] for seed in range(300) if drawn_pair(seed, 30, "abcd") is not None]
        several = again = 0
        for one, other in pairs:
            try:
                migrate(one, other)
            except TooMany:
                continue
            met = self.rings_met(one, other)
            many = len(met)
            several += many > 3
            again += any(met.count(choice) > 1 for choice in met)
            for limit in {1, many, many + 1} - {0}:
                if limit >= many:
                    self.assertEqual(migrate(one, other, limit=limit), migrate(one, other))
            if many > 1:
                with self.assertRaises(TooMany) as caught:
                    migrate(one, other, limit=many - 1)
                self.assertEqual(caught.exception.limit, many - 1)
        # A choice that the search comes to again counts again.
        self.assertGreater(several, 3)
        self.assertGreater(again, 0)

    def test_too_many(self):
        one, other = caught_in_rings(25, "int"), caught_in_rings(25, "text")
        for limit in ({}, {"limit": 60}, {"limit": 1}, {"limit": 2000}):
            with self.assertRaises(TooMany) as caught:
                migrate(one, other, **limit)
            self.assertEqual(caught.exception.limit, limit.get("limit", 60))

    def test_catalogs_of_60_items(self):
        one, other = tower(7, "int"), tower(7, "text")
        told = migrate(run(one, [function("x" + letter, ()) for letter in "abcdefghijklmnopqrstuvwxyz"]), other)
        self.assertEqual(told[0], "order")
        self.assertEqual(len(told[1]), 26 + 7 * 5)
        self.assertIs(is_tree(one, other, [], 20, migrate(one, other)[3]), True)
        many = run(shop(), [function("x" + letter, ()) for letter in "abcdefghijklmnopqrstuvwxyz"])
        self.assertEqual(len(migrate(many, run(many, [("drop", "schema", "app", "cascade")]))[1]), len(many) - 2)

    def test_what_is_returned_is_the_callers(self):
        one, other = tower(2, "int"), tower(2, "text")
        before = migrate(one, other)

        def clear(thing):
            for part in thing if isinstance(thing, (list, tuple)) else ():
                clear(part)
            if isinstance(thing, list):
                thing.clear()

        lists = []

        def collect(thing):
            if isinstance(thing, list):
                lists.append(id(thing))
            for part in thing if isinstance(thing, (list, tuple)) else ():
                collect(part)

        told = migrate(one, other)
        collect(told)
        self.assertEqual(len(lists), len(set(lists)))
        clear(told)
        clear(order(one, other, before[2]))
        self.assertEqual(migrate(one, other), before)
        self.assertEqual(order(one, other, before[2]), before[1])


class IsMigration(unittest.TestCase):
    def setUp(self):
        self.one = catalog_of(view("v", 1, "t", "a"), function("f", ("int",)), function("g", (), ("f", ("int",))))
        self.other = catalog_of(column("a", "text"), view("v", 1, "t", "a"), function("f", ("text",)), function("g", (), ("f", ("text",))),
                                ("create", "sequence", "q", (None,)))
        self.told = migrate(self.one, self.other)[1]

    def check(self, thing, right):
        self.assertIs(is_migration(self.one, self.other, thing), right)

    def test_the_one_that_migrate_returns(self):
        self.check(self.told, True)
        self.check(tuple(self.told), False)
        self.assertIs(is_migration(self.one, self.one, []), True)
        self.assertIs(is_migration(self.one, done(self.one, ("path", ())), []), True)
        self.check([], False)

    def replaced(self, item, catalog=None):
        return ("replace", item[0], where_of(item), (catalog or self.other)[item], "alone")

    def test_other_valid_lists(self):
        turned = sorted(self.told, key=lambda statement: (statement[0] != "create" or statement[1] != "sequence",))
        self.check(turned, True)
        table = ("create", "sequence", ("app", "q"), (None,))
        self.check([statement for statement in self.told if statement != table] + [table], True)
        again = [self.replaced(item) for item in [("column", "app", "t", "b")]]
        self.check(self.told + again, True)
        self.check(again + self.told, True)
        self.check(again + self.told + again, False)
        q = ("sequence", "app", "q")
        self.check(self.told + [self.replaced(q)], False)

    def test_a_longer_way(self):
        f, g = F, G
        both = [("drop", "function", ("app", "g"), "alone"), ("drop", "function", ("app", "f"), "alone"),
                ("create", "function", ("app", "f"), self.other[f]), ("create", "function", ("app", "g"), self.other[g])]
        rest = [statement for statement in self.told if statement[1] != "function"]
        self.check(rest + both, True)
        self.check(both + rest, True)
        self.check(rest + [both[1], both[0]] + both[2:], False)
        self.check(rest + both[:2] + both[:1:-1], False)
        self.check(rest + both + both[:1] + both[3:], False)

    def test_statements_out_and_twice(self):
        for at, statement in enumerate(self.told):
            self.check(self.told[:at] + self.told[at + 1:], False)
            self.check(self.told[:at] + [statement, statement] + self.told[at + 1:], False)
            self.check(self.told + [statement], False)

    def test_other_statements_and_ways(self):
        for statement in [
            ("path", ("app",)), ("rename", "view", ("app", "v"), "w"), ("move", "view", ("app", "v"), "app"), None, Odd(), (), "create",
            ("create", "sequence", ("app", "x"), (None,)), ("drop", "sequence", ("app", "q"), "alone"),
            ("drop", "column", (("app", "t"), "b"), "alone"), ("drop", "table", ("app", "t"), "alone"), ("drop", "schema", "app", "alone"),
        ]:
            self.check(self.told + [statement], False)
            self.check([statement] + self.told, False)
        for at, statement in enumerate(self.told):
            if statement[0] in ("drop", "replace"):
                for way in ("restrict", "cascade"):
                    self.check(self.told[:at] + [statement[:-1] + (way,)] + self.told[at + 1:], False)

    def test_what_stays_is_never_dropped(self):
        script = [("create", "sequence", "q", (None,)), ("create", "schema", "old", ()), ("create", "table", "x", ())]
        one = catalog_of(*script)
        for item in [("sequence", "app", "q"), ("schema", "old"), ("table", "app", "x"), ("column", "app", "t", "b")]:
            self.assertIn(item[0], LASTING)
            again = [("drop", item[0], where_of(item), "alone"), ("create", item[0], where_of(item), one[item])]
            self.assertEqual(run(one, again), one)
            self.assertIs(is_migration(one, one, again), False)
        view_again = [("drop", "view", ("app", "v"), "alone"), ("create", "view", ("app", "v"), self.one[V])]
        self.assertIs(is_migration(self.one, self.one, view_again), True)

    def test_definitions_of_other_alone(self):
        one = catalog_of()
        other = catalog_of(function("f", ()))
        there = ("create", "function", ("app", "f"), other[F])
        elsewhere = ("create", "function", ("app", "f"), ((), "int", ("int", 5)))
        self.assertIs(is_migration(one, other, [there]), True)
        self.assertIs(is_migration(one, other, [elsewhere]), False)
        self.assertIs(is_migration(one, other, [elsewhere, self.replaced(F, other)]), False)
        self.assertIs(is_migration(one, other, [there, self.replaced(F, other)]), False)
        self.assertIs(is_migration(other, one, [("drop", "function", ("app", "f"), "alone")]), True)
        self.assertIs(is_migration(other, one, [self.replaced(F, other), ("drop", "function", ("app", "f"), "alone")]), False)

    def test_a_name_for_a_ref(self):
        for at, statement in enumerate(self.told):
            where = statement[2]
            short = where[1] if isinstance(where[0], str) else (where[0][1], where[1])
            self.check(self.told[:at] + [statement[:2] + (short,) + statement[3:]] + self.told[at + 1:], False)

    def test_with_one_thing_put_otherwise_at_any_depth(self):
        for thing in list(otherwise(self.told)) + all_sorts() + [[Odd()] * len(self.told), self.told * 3000]:
            self.check(thing, False)

    def test_true_for_one(self):
        one, other = catalog_of(), catalog_of(("create", "function", "f", ((), "int", ("int", 1))))
        self.assertIs(is_migration(one, other, [("create", "function", ("app", "f"), ((), "int", ("int", 1)))]), True)
        self.assertIs(is_migration(one, other, [("create", "function", ("app", "f"), ((), "int", ("int", True)))]), False)

    def test_of_orders_that_are_drawn(self):
        many = {True: 0, False: 0}
        for seed in range(150):
            pair = drawn_pair(seed, 14)
            if pair is None:
                continue
            drawing, one, other = pair
            told = migrate(one, other)
            if told[0] == "none":
                continue
            for _ in range(6):
                mixed = drawing.random.sample(told[1], len(told[1]))
                if drawing.chance(60):
                    at = drawing.random.randrange(len(mixed) + 1)
                    mixed = told[1][:at] + mixed[at:at + 1] + told[1][at:]
                right = self.is_right(one, other, mixed)
                self.assertIs(is_migration(one, other, mixed), right)
                many[right] += 1
        self.assertGreater(min(many.values()), 50)

    def is_right(self, one, other, statements):
        """Whether statements, all of those of a migration, are one."""
        words = {}
        for statement in statements:
            words.setdefault(address_of(statement), []).append(statement[0])
        if any(told not in (["drop"], ["create"], ["drop", "create"], ["replace"]) for told in words.values()):
            return False
        try:
            return states(run(one, statements)) == states(other)
        except CatalogError:
            return False


class ExampleOfTheDocument(unittest.TestCase):
    def test_it(self):
        script = [
            ("create", "schema", "app", ()), ("path", ("old", "app")), ("create", "table", "orders", ()),
            ("create", "column", ("orders", "net"), ("int", None)), view("nets", 1, "orders", "net"),
        ]
        one = run(Catalog(), script)
        other = run(one, [("replace", "column", ("orders", "net"), ("text", None), "restrict")])
        told = migrate(one, other)
        self.assertEqual([told[1][0][:2], told[1][1][:2], told[1][2][:2], told[2], told[3][0][0][:2]], [
            ("drop", "view"), ("replace", "column"), ("create", "view"), [("view", "app", "nets")],
            (("replace", ("column", "app", "orders", "net")), ("replace", ("view", "app", "nets"))),
        ])
