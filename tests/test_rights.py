"""[90] to [94] rights, with [6], [7], [8], [15]."""

import itertools
import random
import unittest

from leancatalog.catalogs import Catalog
from leancatalog.changes import done, run
from leancatalog.errors import CatalogError, Hung, Misfit, NoGrant, NoItem, NoRight, NoRole, TooMany, Wrong
from leancatalog.rights import Rights
from tests.build import APP, BYNET, CHEAP, IDS, MONEY, NET, NETS, NONE, OLD, ORDERS, OWNED, START, TAX, TOLD, TOPS, shop
from tests.drawn import Drawing
from tests.stub import Odd, all_sorts

RIGHTS = {
    "schema": ["make", "use"], "table": ["read", "write"], "view": ["read", "write"], "domain": ["use"], "sequence": ["use"],
    "function": ["use"],
}
WORDS = ["make", "read", "use", "write"]
ROLES = ["ann", "bob", "cid", "dan", "eve"]


class Model:
    """The grants of one catalog by the words of [90] to [94], each question answered by a search through all rows of grants."""

    def __init__(self, catalog, owner):
        self.owners = {item: owner for item in catalog.addresses() if item[0] in RIGHTS}
        self.grants = []

    def rows(self, role, address, right):
        """The rows of grants, none twice, that lead from the owner to a role, of which all but the last are onward."""
        found, rows = [], [[]]
        while rows:
            longer = []
            for row in rows:
                end = row[-1][1] if row else self.owners[address]
                if end == role:
                    found.append(row)
                if row and not row[-1][4]:
                    continue
                for grant in self.grants:
                    if grant[0] == end and grant[2:4] == (address, right) and grant not in row:
                        longer.append(row + [grant])
            rows = longer
        return found

    def chain(self, role, address, right):
        return min(self.rows(role, address, right), key=lambda row: (len(row), row), default=None)

    def holds_onward(self, role, address, right):
        return any(not row or row[-1][4] for row in self.rows(role, address, right))

    def fall(self):
        """Takes away what does not stand, and returns it."""
        fallen = [grant for grant in self.grants if not self.holds_onward(grant[0], grant[2], grant[3])]
        self.grants = [grant for grant in self.grants if grant not in fallen]
        return sorted(fallen)


class Making(unittest.TestCase):
    def test_at_first(self):
        catalog = shop()
        rights = Rights(catalog, ["cid", "ann", "bob"], "bob")
        self.assertEqual((len(rights), rights.grants(), rights.roles()), (0, [], ["ann", "bob", "cid"]))
        for item in catalog.addresses():
            if item[0] in RIGHTS:
                self.assertEqual(rights.owner(item), "bob")

    def test_which_items_have_which_rights(self):
        catalog = shop()
        rights = Rights(catalog, ROLES, "ann")
        for item in catalog.addresses():
            for right in WORDS:
                if item[0] not in RIGHTS:
                    for ask in self.asked(rights, "bob", item, right) + [lambda: rights.owner(item)]:
                        self.raises(NoItem, {"address": item}, ask)
                elif right not in RIGHTS[item[0]]:
                    for ask in self.asked(rights, "bob", item, right):
                        self.raises(Misfit, {"address": item}, ask)
                else:
                    told = [ask() for ask in self.asked(rights, "bob", item, right)]
                    self.assertEqual(told, [False, False, None, ["ann"], True])
                    told = [ask() for ask in self.asked(rights, "ann", item, right)]
                    self.assertEqual(told, [True, True, [], None, False])

    def asked(self, rights, role, item, right):
        return [
            lambda: rights.holds(role, item, right), lambda: rights.holds_onward(role, item, right), lambda: rights.chain(role, item, right),
            lambda: rights.cut(role, item, right), lambda: rights.is_cut(role, item, right, ["ann"]),
        ]

    def raises(self, error, fields, call):
        with self.assertRaises(error) as caught:
            call()
        self.assertEqual(vars(caught.exception), fields)

    def test_errors_of_questions_in_their_order(self):
        rights = Rights(shop(), ROLES, "ann")
        for ask in self.asked(rights, "zoe", NONE, "use"):
            self.raises(NoRole, {"role": "zoe"}, ask)
        for ask in self.asked(rights, "bob", NONE, "use"):
            self.raises(NoItem, {"address": NONE}, ask)
        for ask in self.asked(rights, "bob", NET, "use"):
            self.raises(NoItem, {"address": NET}, ask)
        for ask in self.asked(rights, "bob", ORDERS, "use"):
            self.raises(Misfit, {"address": ORDERS}, ask)
        self.raises(NoItem, {"address": NONE}, lambda: rights.owner(NONE))

    def test_wrong_arguments(self):
        catalog = shop()

        def wrong(place, *arguments):
            self.raises(Wrong, {"place": place}, lambda: Rights(*arguments))

        for thing in all_sorts() + [Odd()]:
            wrong(0, thing, ROLES, "ann")
            wrong(0, thing, thing, thing)
            wrong(1, catalog, thing, "ann")
            wrong(1, catalog, [thing], "ann")
            wrong(1, catalog, thing, thing)
            wrong(2, catalog, ROLES, thing)
        names = [letter * 3 for letter in "abcdefghijklm"]
        for roles in [[], names, ("ann",), ["ann", "ann"], ["ann", "Bob"], ["ann", "toolongname"], {"ann": True}, "ann", ["ann", ["bob"]]]:
            wrong(1, catalog, roles, "ann")
        wrong(2, catalog, ROLES, "zoe")
        wrong(2, catalog, ["bob"], "ann")
        self.assertEqual(Rights(catalog, names[:12], "aaa").roles(), names[:12])
        self.assertEqual(Rights(catalog, ["ann"], "ann").roles(), ["ann"])

    def test_the_list_of_roles_changed_behind_the_call(self):
        roles = ["bob", "ann"]
        rights = Rights(shop(), roles, "ann")
        roles.append("cid")
        roles.remove("bob")
        self.assertEqual(rights.roles(), ["ann", "bob"])
        rights.roles().clear()
        self.assertEqual(rights.roles(), ["ann", "bob"])

    def test_a_catalog_without_items(self):
        rights = Rights(Catalog(), ["ann"], "ann")
        self.assertEqual((rights.grants(), rights.follow(shop(), "ann"), rights.owner(ORDERS)), ([], [], "ann"))


class Changing(unittest.TestCase):
    def setUp(self):
        self.catalog = shop()
        self.rights = Rights(self.catalog, ROLES, "ann")

    def give(self, giver, taker, onward=True, address=ORDERS, right="read"):
        return self.rights.give(giver, taker, address, right, onward)

    def raises(self, error, fields, method, *arguments):
        before = self.rights.grants()
        with self.assertRaises(error) as caught:
            method(*arguments)
        self.assertEqual(vars(caught.exception), fields)
        self.assertEqual(self.rights.grants(), before)


class Giving(Changing):
    def test_a_grant(self):
        self.assertIsNone(self.give("ann", "bob", False))
        self.assertEqual(self.rights.grants(), [("ann", "bob", ORDERS, "read", False)])
        self.assertEqual(len(self.rights), 1)
        self.assertIs(self.rights.holds("bob", ORDERS, "read"), True)
        self.assertIs(self.rights.holds_onward("bob", ORDERS, "read"), False)
        self.assertIs(self.rights.holds("bob", ORDERS, "write"), False)
        self.assertIs(self.rights.holds("bob", NETS, "read"), False)
        self.assertEqual(self.rights.chain("bob", ORDERS, "read"), [("ann", "bob", ORDERS, "read", False)])

    def test_again(self):
        self.give("ann", "bob", False)
        self.give("ann", "bob", False)
        self.assertEqual(self.rights.grants(), [("ann", "bob", ORDERS, "read", False)])
        self.give("ann", "bob", True)
        self.assertEqual(self.rights.grants(), [("ann", "bob", ORDERS, "read", True)])
        self.give("ann", "bob", False)
        self.assertEqual(self.rights.grants(), [("ann", "bob", ORDERS, "read", True)])
        self.assertIs(self.rights.holds_onward("bob", ORDERS, "read"), True)

    def test_to_the_owner(self):
        self.give("ann", "bob")
        self.give("bob", "ann", False)
        self.assertEqual(self.rights.chain("ann", ORDERS, "read"), [])
        self.assertEqual(len(self.rights), 2)

    def test_wrong_arguments(self):
        give = self.rights.give
        for thing in all_sorts() + [Odd(), "Zoe", "toolongname"]:
            self.raises(Wrong, {"place": 0}, give, thing, "bob", ORDERS, "read", True)
            self.raises(Wrong, {"place": 0}, give, thing, thing, thing, thing, thing)
            self.raises(Wrong, {"place": 1}, give, "ann", thing, ORDERS, "read", True)
            self.raises(Wrong, {"place": 2}, give, "ann", "bob", thing, "read", True)
            self.raises(Wrong, {"place": 3}, give, "ann", "bob", ORDERS, thing, True)
            if not isinstance(thing, bool):
                self.raises(Wrong, {"place": 4}, give, "ann", "bob", ORDERS, "read", thing)
        self.raises(Wrong, {"place": 1}, give, "ann", "ann", ORDERS, "read", True)
        self.raises(Wrong, {"place": 2}, give, "ann", "bob", list(ORDERS), "read", True)
        self.raises(Wrong, {"place": 3}, give, "ann", "bob", ORDERS, "drop", True)
        for onward in (0, 1, None, "True"):
            self.raises(Wrong, {"place": 4}, give, "ann", "bob", ORDERS, "read", onward)
        self.raises(Wrong, {"place": 4}, give, "zoe", "zac", NONE, "use", 1)

    def test_errors_in_their_order(self):
        give = self.rights.give
        self.raises(NoRole, {"role": "zoe"}, give, "zoe", "zac", NONE, "use", True)
        self.raises(NoRole, {"role": "zac"}, give, "bob", "zac", NONE, "use", True)
        self.raises(NoItem, {"address": NONE}, give, "bob", "cid", NONE, "use", True)
        self.raises(NoItem, {"address": BYNET}, give, "bob", "cid", BYNET, "use", True)
        self.raises(Misfit, {"address": ORDERS}, give, "bob", "cid", ORDERS, "use", True)
        self.raises(NoRight, {"role": "bob"}, give, "bob", "cid", ORDERS, "read", True)
        self.give("ann", "bob", False)
        self.raises(NoRight, {"role": "bob"}, give, "bob", "cid", ORDERS, "read", False)

    def fill(self):
        """Sixty grants."""
        items = [item for item in self.catalog.addresses() if item[0] in RIGHTS]
        for item, taker, right in itertools.product(items, ROLES[1:], WORDS):
            if right in RIGHTS[item[0]] and len(self.rights) < 60:
                self.give("ann", taker, False, item, right)
        self.assertEqual(len(self.rights), 60)

    def test_the_sixtieth_and_the_sixty_first(self):
        self.fill()
        taken = self.rights.grants()[0]
        self.raises(TooMany, {"limit": 60}, self.rights.give, "ann", "eve", TOPS, "write", True)
        self.raises(NoRight, {"role": "bob"}, self.rights.give, "bob", "eve", TOPS, "write", True)
        self.rights.give(*taken[:4], True)
        self.assertEqual(self.rights.grants()[0], taken[:4] + (True,))
        self.rights.give(*taken[:4], False)
        self.assertEqual(len(self.rights), 60)
        self.rights.revoke(*taken[:4], "restrict")
        self.give("ann", "eve", True, TOPS, "write")
        self.assertEqual(len(self.rights), 60)


class Asking(Changing):
    def test_rings_of_grants_that_no_chain_reaches(self):
        self.give("ann", "bob")
        self.give("bob", "cid")
        self.give("cid", "dan")
        self.give("dan", "bob")
        self.assertEqual(len(self.rights.revoke("ann", "bob", ORDERS, "read", "cascade")), 4)
        self.assertEqual(self.rights.grants(), [])

    def test_the_first_of_the_shortest(self):
        for pair in ["ann bob", "ann cid", "cid dan", "bob dan", "dan eve", "bob eve"]:
            self.give(*pair.split())
        self.assertEqual([grant[:2] for grant in self.rights.chain("dan", ORDERS, "read")], [("ann", "bob"), ("bob", "dan")])
        self.assertEqual([grant[:2] for grant in self.rights.chain("eve", ORDERS, "read")], [("ann", "bob"), ("bob", "eve")])
        self.rights.revoke_onward("ann", "bob", ORDERS, "read", "cascade")
        self.assertEqual([grant[:2] for grant in self.rights.chain("eve", ORDERS, "read")],
                         [("ann", "cid"), ("cid", "dan"), ("dan", "eve")])
        self.assertEqual(self.rights.chain("bob", ORDERS, "read"), [("ann", "bob", ORDERS, "read", False)])

    def test_cuts(self):
        self.give("ann", "bob")
        self.give("bob", "cid", False)
        self.give("ann", "eve", False)
        self.assertEqual(self.rights.cut("dan", ORDERS, "read"), ["ann", "bob"])
        self.assertEqual(self.rights.cut("dan", ORDERS, "write"), ["ann"])
        self.assertIsNone(self.rights.cut("cid", ORDERS, "read"))
        for many in range(6):
            for roles in itertools.permutations(ROLES, many):
                right = sorted(roles) == list(roles) and {"ann", "bob"} <= set(roles) and "dan" not in roles
                self.assertIs(self.rights.is_cut("dan", ORDERS, "read", list(roles)), right)
                self.assertIs(self.rights.is_cut("cid", ORDERS, "read", list(roles)), False)

    def test_values_that_are_no_cuts(self):
        self.give("ann", "bob")
        for thing in all_sorts() + [("ann", "bob"), ["ann", "bob", "bob"], ["bob", "ann"], ["ann", "bob", "zoe"], ["ann", "bob", Odd()],
                                    [Odd(), Odd()], Odd(), ["ann", "bob", None], {"ann": 0, "bob": 0}, ["ann", ["bob"]], "ann", ["ann"], ["bob"]]:
            self.assertIs(self.rights.is_cut("dan", ORDERS, "read", thing), False)
        self.assertIs(self.rights.is_cut("dan", ORDERS, "read", ["ann", "bob"]), True)

    def test_what_is_returned_is_the_callers(self):
        self.give("ann", "bob")
        self.rights.grants().clear()
        self.rights.chain("bob", ORDERS, "read").clear()
        self.rights.cut("dan", ORDERS, "read").clear()
        self.assertEqual([len(self.rights.grants()), len(self.rights.chain("bob", ORDERS, "read")), self.rights.cut("dan", ORDERS, "read")],
                         [1, 1, ["ann", "bob"]])


class Revoking(Changing):
    def both(self):
        return [self.rights.revoke, self.rights.revoke_onward]

    def test_wrong_arguments(self):
        self.give("ann", "bob")
        for method in self.both():
            for thing in all_sorts() + [Odd()]:
                self.raises(Wrong, {"place": 0}, method, thing, thing, thing, thing, thing)
                self.raises(Wrong, {"place": 1}, method, "ann", thing, ORDERS, "read", "cascade")
                self.raises(Wrong, {"place": 2}, method, "ann", "bob", thing, "read", "cascade")
                self.raises(Wrong, {"place": 3}, method, "ann", "bob", ORDERS, thing, "cascade")
                self.raises(Wrong, {"place": 4}, method, "ann", "bob", ORDERS, "read", thing)
            self.raises(Wrong, {"place": 1}, method, "ann", "ann", ORDERS, "read", "cascade")
            self.raises(Wrong, {"place": 4}, method, "ann", "bob", ORDERS, "read", "alone")
            self.raises(Wrong, {"place": 4}, method, "zoe", "zac", NONE, "use", "alone")

    def test_errors_in_their_order(self):
        self.give("ann", "bob")
        for method in self.both():
            self.raises(NoRole, {"role": "zoe"}, method, "zoe", "zac", NONE, "use", "cascade")
            self.raises(NoRole, {"role": "zac"}, method, "ann", "zac", NONE, "use", "cascade")
            self.raises(NoItem, {"address": NONE}, method, "ann", "bob", NONE, "use", "cascade")
            self.raises(Misfit, {"address": ORDERS}, method, "ann", "bob", ORDERS, "use", "cascade")
            self.raises(NoGrant, {"giver": "bob", "taker": "ann"}, method, "bob", "ann", ORDERS, "read", "restrict")
            self.raises(NoGrant, {"giver": "ann", "taker": "bob"}, method, "ann", "bob", ORDERS, "write", "restrict")
            self.raises(NoGrant, {"giver": "ann", "taker": "cid"}, method, "ann", "cid", ORDERS, "read", "restrict")

    def test_a_grant_that_is_not_onward(self):
        self.give("ann", "bob", False)
        self.raises(NoGrant, {"giver": "ann", "taker": "bob"}, self.rights.revoke_onward, "ann", "bob", ORDERS, "read", "cascade")
        self.assertEqual(self.rights.revoke("ann", "bob", ORDERS, "read", "restrict"), [("ann", "bob", ORDERS, "read", False)])
        self.assertEqual(len(self.rights), 0)

    def test_what_falls(self):
        for pair in ["ann bob", "bob cid", "bob dan", "cid eve"]:
            self.give(*pair.split())
        self.give("ann", "cid", False)
        hung = ("bob", "cid", ORDERS, "read", True)
        for method in self.both():
            self.raises(Hung, {"grant": hung}, method, "ann", "bob", ORDERS, "read", "restrict")
        fallen = [hung, ("bob", "dan", ORDERS, "read", True), ("cid", "eve", ORDERS, "read", True)]
        self.assertEqual(self.rights.revoke_onward("ann", "bob", ORDERS, "read", "cascade"), fallen)
        left = [("ann", "bob", ORDERS, "read", False), ("ann", "cid", ORDERS, "read", False)]
        self.assertEqual(self.rights.grants(), left)
        self.assertEqual(self.rights.revoke("ann", "bob", ORDERS, "read", "cascade"), left[:1])

    def test_the_revoked_grant_is_among_those_that_are_gone(self):
        self.give("ann", "cid")
        self.give("cid", "bob")
        self.assertEqual(self.rights.revoke("ann", "cid", ORDERS, "read", "cascade"),
                         [("ann", "cid", ORDERS, "read", True), ("cid", "bob", ORDERS, "read", True)])

    def test_nothing_falls_that_another_chain_reaches(self):
        for pair in ["ann bob", "bob cid", "ann cid", "cid bob", "cid dan"]:
            self.give(*pair.split())
        self.assertEqual(self.rights.revoke("ann", "bob", ORDERS, "read", "restrict"), [("ann", "bob", ORDERS, "read", True)])
        self.raises(Hung, {"grant": ("bob", "cid", ORDERS, "read", True)}, self.rights.revoke, "ann", "cid", ORDERS, "read", "restrict")

    def test_other_rights_and_items_stay(self):
        for address, right in [(ORDERS, "read"), (ORDERS, "write"), (NETS, "read"), (APP, "make"), (APP, "use")]:
            self.give("ann", "bob", True, address, right)
            self.give("bob", "cid", True, address, right)
        self.assertEqual(len(self.rights.revoke("ann", "bob", APP, "use", "cascade")), 2)
        self.assertEqual(len(self.rights), 8)

    def test_revoked_onward_in_a_ring(self):
        for pair in ["ann bob", "bob cid", "cid bob"]:
            self.give(*pair.split())
        self.assertEqual(self.rights.revoke_onward("cid", "bob", ORDERS, "read", "restrict"), [])
        self.assertEqual(self.rights.revoke_onward("ann", "bob", ORDERS, "read", "cascade"),
                         [("bob", "cid", ORDERS, "read", True), ("cid", "bob", ORDERS, "read", False)])

    def test_in_whatever_order(self):
        pairs = ["ann bob", "ann cid", "bob cid", "cid dan", "dan bob", "dan eve", "eve cid", "cid eve"]
        for revoked in itertools.combinations(pairs, 3):
            left = set()
            for ordered in itertools.permutations(revoked):
                self.rights = Rights(self.catalog, ROLES, "ann")
                for pair in pairs:
                    self.give(*pair.split())
                for pair in ordered:
                    try:
                        self.rights.revoke(*pair.split(), ORDERS, "read", "cascade")
                    except NoGrant:
                        pass
                left.add(tuple(self.rights.grants()))
            self.assertEqual(len(left), 1)


class Drawn(unittest.TestCase):
    def test_rows_of_drawn_deeds(self):
        words = {}
        for seed in range(40):
            drawn = random.Random(seed)
            catalog = shop()
            rights, model = Rights(catalog, ROLES, "ann"), Model(catalog, "ann")
            items = drawn.sample([(ORDERS, "read"), (ORDERS, "write"), (APP, "use"), (TAX, "use"), (MONEY, "use"), (IDS, "use")], 2)
            for _ in range(40):
                word = drawn.choice(["give"] * 5 + ["revoke", "revoke_onward"])
                giver, taker = drawn.sample(ROLES, 2)
                address, right = drawn.choice(items)
                end = drawn.random() < 0.7 if word == "give" else drawn.choice(["restrict", "cascade"])
                if word != "give" and rights.grants() and drawn.random() < 0.8:
                    giver, taker, address, right, _ = drawn.choice(rights.grants())
                error = self.expected(model, word, giver, taker, address, right, end)
                words[word, type(error)] = words.get((word, type(error)), 0) + 1
                try:
                    told = getattr(rights, word)(giver, taker, address, right, end)
                    self.assertEqual(told, error)
                except CatalogError as caught:
                    self.assertEqual((type(caught), vars(caught)), (type(error), vars(error)))
                self.assertEqual(rights.grants(), sorted(model.grants))
                self.assertEqual(len(rights), len(model.grants))
                self.check(rights, model, address, right)
        self.assertGreater(min(words.values()), 3)
        self.assertEqual(len(words), 2 + 3 + 3)

    def expected(self, model, word, giver, taker, address, right, end):
        """What a deed returns, or the error that it raises; model takes the deed."""
        key = (giver, taker, address, right)
        there = [grant for grant in model.grants if grant[:4] == key]
        if word == "give":
            if not model.holds_onward(giver, address, right):
                return NoRight(giver)
            onward = end or (bool(there) and there[0][4])
            model.grants = [grant for grant in model.grants if grant[:4] != key] + [key + (onward,)]
            return None
        if not there or (word == "revoke_onward" and not there[0][4]):
            return NoGrant(giver, taker)
        before = model.grants
        model.grants = [grant for grant in before if grant[:4] != key]
        if word == "revoke_onward":
            model.grants.append(key + (False,))
        fallen = model.fall()
        if fallen and end == "restrict":
            model.grants = before
            return Hung(fallen[0])
        return sorted(fallen + (there if word == "revoke" else []))

    def check(self, rights, model, address, right):
        for role in ROLES:
            rows = model.rows(role, address, right)
            self.assertEqual(rights.chain(role, address, right), model.chain(role, address, right))
            self.assertIs(rights.holds(role, address, right), bool(rows))
            self.assertIs(rights.holds_onward(role, address, right), model.holds_onward(role, address, right))
            cut = rights.cut(role, address, right)
            self.assertIs(cut is None, bool(rows))
            if cut is not None:
                self.assertEqual(cut, [one for one in ROLES if model.holds_onward(one, address, right)])
                self.assertIs(rights.is_cut(role, address, right, cut), True)
            for many in range(6):
                for roles in itertools.combinations(ROLES, many):
                    self.assertIs(rights.is_cut(role, address, right, list(roles)), self.is_cut(model, role, address, right, roles))

    def is_cut(self, model, role, address, right, roles):
        grants = [grant for grant in model.grants if grant[2:4] == (address, right) and grant[0] in roles]
        return model.owners[address] in roles and role not in roles and not any(
            grant[1] == role or (grant[4] and grant[1] not in roles) for grant in grants
        )


class Following(Changing):
    def test_items_renamed_moved_and_replaced(self):
        for address, right in [(ORDERS, "read"), (NETS, "write"), (TAX, "use"), (OWNED, "use"), (APP, "make")]:
            self.give("ann", "bob", True, address, right)
            self.give("bob", "cid", False, address, right)
        self.rights.revoke("ann", "bob", TAX, "use", "cascade")
        later = run(self.catalog, [
            ("move", "table", "orders", "old"), ("rename", "table", ("old", "orders"), "bills"), ("rename", "schema", "app", "new"),
            ("replace", "function", ("new", "tax"), (("int",), "int", ("int", 5)), "alone"), ("rename", "sequence", ("old", "owned"), "q"),
        ])
        self.assertEqual(self.rights.follow(later, "dan"), [])
        self.assertEqual(sorted({grant[2:4] for grant in self.rights.grants()}), [
            (("schema", "new"), "make"), (("sequence", "old", "q"), "use"), (("table", "old", "bills"), "read"), (("view", "new", "nets"), "write"),
        ])
        self.assertEqual(len(self.rights), 8)
        for item in later.addresses():
            if item[0] in RIGHTS:
                self.assertEqual(self.rights.owner(item), "ann")
        self.raises(NoItem, {"address": ORDERS}, self.rights.owner, ORDERS)

    def test_new_items_get_the_owner(self):
        later = run(self.catalog, [("create", "table", "new", ()), ("create", "column", ("new", "a"), ("int", None))])
        self.assertEqual(self.rights.follow(later, "dan"), [])
        self.assertEqual([self.rights.owner(("table", "app", "new")), self.rights.owner(ORDERS)], ["dan", "ann"])
        self.raises(NoItem, {"address": ("column", "app", "new", "a")}, self.rights.owner, ("column", "app", "new", "a"))
        self.rights.give("dan", "bob", ("table", "app", "new"), "read", False)
        self.raises(NoRight, {"role": "ann"}, self.rights.give, "ann", "bob", ("table", "app", "new"), "read", False)
        later = run(later, [("rename", "table", "new", "newer")])
        self.assertEqual(self.rights.follow(later, "eve"), [])
        self.assertEqual(self.rights.grants(), [("dan", "bob", ("table", "app", "newer"), "read", False)])

    def test_grants_of_items_that_are_gone(self):
        self.give("ann", "eve", True, TOPS)
        self.give("ann", "bob")
        self.give("bob", "cid")
        self.give("ann", "bob", True, APP, "use")
        later = run(self.catalog, [("rename", "view", ("old", "tops"), "top"), ("drop", "table", "orders", "cascade"), ("create", "table", "orders", ())])
        gone = [("ann", "bob", ORDERS, "read", True), ("ann", "eve", TOPS, "read", True), ("bob", "cid", ORDERS, "read", True)]
        self.assertEqual(self.rights.follow(later, "dan"), gone)
        self.assertEqual([self.rights.owner(ORDERS), self.rights.grants()], ["dan", [("ann", "bob", APP, "use", True)]])
        self.assertEqual(self.rights.follow(self.catalog, "eve"), [])
        self.assertEqual([self.rights.owner(ORDERS), self.rights.owner(TOPS), self.rights.owner(APP)], ["eve", "eve", "ann"])
        self.assertEqual(len(self.rights), 1)

    def test_items_that_exchange_their_names(self):
        self.give("ann", "bob", True, TAX, "use")
        later = run(self.catalog, [("rename", "function", "tax", "x"), ("rename", "function", "small", "tax"), ("rename", "function", "x", "small")])
        self.rights.follow(later, "ann")
        self.assertEqual(self.rights.grants(), [("ann", "bob", ("function", "app", "small"), "use", True)])

    def test_a_catalog_of_another_line(self):
        self.give("ann", "bob")
        self.assertEqual(self.rights.follow(shop(), "dan"), [("ann", "bob", ORDERS, "read", True)])
        self.assertEqual([self.rights.owner(ORDERS), self.rights.grants()], ["dan", []])

    def test_errors(self):
        self.give("ann", "bob")
        for thing in all_sorts() + [Odd()]:
            self.raises(Wrong, {"place": 0}, self.rights.follow, thing, thing)
            self.raises(Wrong, {"place": 1}, self.rights.follow, self.catalog, thing)
        later = done(self.catalog, ("drop", "table", "orders", "cascade"))
        self.raises(NoRole, {"role": "zoe"}, self.rights.follow, later, "zoe")
        self.assertEqual(self.rights.owner(ORDERS), "ann")

    def test_step_by_step_as_at_once(self):
        for seed in range(40):
            drawing = Drawing(seed)
            catalog = drawing.catalog(30)
            at_once, by_steps = Rights(catalog, ROLES, "ann"), Rights(catalog, ROLES, "ann")
            for item in drawing.items(catalog, *RIGHTS):
                for taker in ROLES[1:3] if len(at_once) < 50 else []:
                    for rights in (at_once, by_steps):
                        rights.give("ann", taker, item, RIGHTS[item[0]][0], taker == "bob")
            gone, later = [], catalog
            for _ in range(12):
                statement = drawing.change(later) or drawing.create(later, ["table", "function", "view"])
                try:
                    later = later if statement is None else done(later, statement)
                except CatalogError:
                    continue
                before = by_steps.grants()
                fallen = by_steps.follow(later, "eve")
                self.assertEqual(fallen, sorted(fallen))
                self.assertLessEqual(set(fallen), set(before))
                gone += fallen
            self.assertEqual(len(at_once.follow(later, "eve")), len(gone))
            self.assertEqual(at_once.grants(), by_steps.grants())
            for item in drawing.items(later, *RIGHTS):
                self.assertEqual(at_once.owner(item), by_steps.owner(item))

    def test_what_fell_on_the_way_has_lost_its_grants_for_good(self):
        self.give("ann", "bob", True, OLD, "use")
        self.give("ann", "bob")
        without = done(self.catalog, ("drop", "table", "orders", "cascade"))
        self.rights.follow(without, "ann")
        self.rights.follow(self.catalog, "ann")
        self.assertEqual(self.rights.grants(), [("ann", "bob", OLD, "use", True)])

    def test_kinds_without_rights_lie_beside(self):
        self.assertEqual(self.rights.follow(self.catalog, "bob"), [])
        for item in [NET, CHEAP, TOLD, START, BYNET]:
            self.raises(NoItem, {"address": item}, self.rights.owner, item)


class ExampleOfTheDocument(unittest.TestCase):
    def test_it(self):
        catalog = run(Catalog(), [("create", "schema", "app", ()), ("path", ("app",)), ("create", "table", "orders", ())])
        orders, rights = ("table", "app", "orders"), Rights(catalog, ["cid", "bob", "ann"], "ann")
        rights.give("ann", "bob", orders, "read", True)
        rights.give("bob", "cid", orders, "read", True)
        rights.give("cid", "bob", orders, "read", True)
        self.assertEqual([len(rights.chain("cid", orders, "read")), rights.cut("cid", orders, "write")], [2, ["ann"]])
        with self.assertRaises(Hung) as caught:
            rights.revoke("ann", "bob", orders, "read", "restrict")
        self.assertEqual(caught.exception.grant, ("bob", "cid", orders, "read", True))
        self.assertEqual([len(rights.revoke("ann", "bob", orders, "read", "cascade")), rights.grants()], [3, []])
