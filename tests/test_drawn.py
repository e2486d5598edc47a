"""[5], [9], [10], [50] to [54] and [62] to [66] over drawn Catalogs, against Catalogs that are grown item by item."""

import itertools
import unittest

from leancatalog.changes import done, effects, run
from leancatalog.errors import CatalogError, Hangs, Misfit, Needs, Taken
from leancatalog.falls import blocked, chain, falls, is_chain, is_order, order, taken
from leancatalog.leans import leaners_by, ring, supports
from leancatalog.paths import lookup, turns
from leancatalog.reading import faults, read
from tests.drawn import Drawing, definitions_of, grown, is_valid, where_of

REPLACED = ("domain", "sequence", "column", "default", "check", "view", "function")
SEEDS = 40


def told(catalog):
    """All that a Catalog says of itself."""
    return catalog.path, [
        (item, catalog[item], catalog.needs(item), catalog.offers(item), catalog.leaners(item))
        for item in catalog.addresses()
    ]


def catalogs(seeds, many=35, names="abcdefgh"):
    for seed in range(seeds):
        drawing = Drawing(seed, names)
        catalog = drawing.catalog(many)
        if ring(catalog) is None:
            yield drawing, catalog


class EachStep(unittest.TestCase):
    def check(self, catalog):
        self.assertTrue(is_valid(catalog))
        items = {item: (catalog[item], catalog.needs(item)) for item in catalog.addresses()}
        self.assertEqual(faults(items), [])
        for item in catalog.addresses():
            self.assertEqual(read(catalog, item, catalog[item]), catalog.needs(item))
            self.assertEqual(catalog.leaners(item), sorted({
                other for other in items if other != item and item in [need[0] for need in items[other][1]]
            }))

    def test_each_catalog_that_comes_of_a_statement_is_valid(self):
        for seed in range(SEEDS):
            drawing = Drawing(seed)
            catalog = drawing.catalog(30)
            self.check(catalog)
            for _ in range(20):
                statement = drawing.change(catalog) if drawing.chance(70) else drawing.create(catalog, ["view", "column"])
                if statement is None:
                    continue
                before = told(catalog)
                try:
                    after = done(catalog, statement)
                except CatalogError as error:
                    with self.assertRaises(type(error)):
                        effects(catalog, statement)
                    self.assertEqual(told(catalog), before)
                    continue
                self.assertEqual(told(catalog), before)
                self.check(after)
                self.check_effects(catalog, statement, after)
                catalog = after

    def check_effects(self, before, statement, after):
        fallen, anew, moved = effects(before, statement)
        new = dict(moved)
        self.assertEqual([fallen, anew, moved], [sorted(fallen), sorted(anew), sorted(moved)])
        came = [item for item in after.addresses() if item not in before and item not in new.values()]
        self.assertEqual(len(came), 1 if statement[0] == "create" else 0)
        left = [new.get(item, item) for item in before.addresses() if item not in fallen]
        self.assertEqual(sorted(left + came), after.addresses())
        self.assertTrue(not moved or statement[0] in ("rename", "move"))
        self.assertTrue(not anew or statement[0] == "replace")
        self.assertTrue(not fallen or statement[0] in ("replace", "drop"))

    def test_the_order_in_which_items_come_does_not_matter(self):
        for _, catalog in catalogs(SEEDS):
            self.assertEqual(grown(definitions_of(catalog), catalog.path), catalog)


class Falling(unittest.TestCase):
    def test_exactly_what_cannot_stand_without_the_item_falls(self):
        for drawing, catalog in catalogs(SEEDS):
            for item in catalog.addresses():
                if drawing.chance(40):
                    definitions = definitions_of(catalog)
                    del definitions[item]
                    rest = grown(definitions, catalog.path)
                    fallen = [other for other in catalog.addresses() if other not in rest]
                    self.assertEqual(falls(catalog, item), fallen)
                    statement = ("drop", item[0], where_of(item), "cascade")
                    self.assertEqual(done(catalog, statement), rest)
                    self.assertEqual(effects(catalog, statement), (fallen, [], []))

    def test_the_ways_of_a_drop(self):
        for drawing, catalog in catalogs(SEEDS):
            for item in catalog.addresses():
                if drawing.chance(40):
                    fallen, along = falls(catalog, item), taken(catalog, item)
                    for way, barring in [("alone", fallen[:]), ("restrict", [one for one in fallen if one not in along])]:
                        barring = [other for other in barring if other != item]
                        self.assertEqual(blocked(catalog, item, way), min(barring, default=None))
                        try:
                            done(catalog, ("drop", item[0], where_of(item), way))
                            self.assertEqual(barring, [])
                        except Hangs as error:
                            self.assertEqual([error.address, error.other], [item, min(barring)])

    def test_leans_and_chains(self):
        for drawing, catalog in catalogs(SEEDS // 2):
            for item in catalog.addresses():
                leaners = {how: leaners_by(catalog, item, how) for how in ["hard", "soft", "owned"]}
                self.assertEqual(sorted({one for how in leaners for one in leaners[how]}), catalog.leaners(item))
                for how in leaners:
                    for other in leaners[how]:
                        self.assertTrue([need for need in catalog.needs(other) if (need[0], need[3]) == (item, how)])
                for other in catalog.addresses():
                    self.assertEqual(item in supports(catalog, other), other in falls(catalog, item))
                    if drawing.chance(5):
                        found = chain(catalog, item, other)
                        self.assertEqual(found is not None, other in falls(catalog, item))
                        self.assertIs(is_chain(catalog, item, other, found), found is not None)

    def test_an_order_in_which_all_are_dropped_alone(self):
        for drawing, catalog in catalogs(SEEDS):
            item = drawing.one(catalog.addresses())
            word, addresses = order(catalog, item)
            self.assertEqual([word, sorted(addresses)], ["order", falls(catalog, item)])
            self.assertIs(is_order(catalog, item, addresses), True)
            after = catalog
            for address in addresses:
                free = [one for one in addresses if one in after and not after.leaners(one)]
                self.assertEqual(address, min(free))
                after = done(after, ("drop", address[0], where_of(address), "alone"))
            self.assertEqual(after, done(catalog, ("drop", item[0], where_of(item), "cascade")))


class Replacing(unittest.TestCase):
    def check(self, catalog, item, definition):
        statement = ("replace", item[0], where_of(item), definition)
        definitions = definitions_of(catalog)
        definitions[item] = definition
        after = grown(definitions, catalog.path)
        fallen = [other for other in catalog.addresses() if other not in after]
        try:
            replaced = done(catalog, statement + ("cascade",))
        except Misfit:
            return "misfit"
        except Needs as error:
            self.assertIn(item, fallen)
            self.assertIn(error.other, fallen)
            return "needs"
        if ring(replaced) is not None:
            return "ring"
        self.assertEqual(replaced, after)
        anew = [
            other for other in after.addresses()
            if other != item and (after.needs(other), after.offers(other)) != (catalog.needs(other), catalog.offers(other))
        ]
        self.assertEqual(effects(catalog, statement + ("cascade",)), (fallen, anew, []))
        for way, barring in [("alone", fallen + anew), ("restrict", fallen)]:
            try:
                self.assertEqual(done(catalog, statement + (way,)), after)
                self.assertEqual(barring, [])
            except Hangs as error:
                self.assertEqual([error.address, error.other], [item, min(barring)])
        return (bool(fallen), bool(anew))

    def test_as_few_fall_as_in_any_valid_catalog_with_the_new_definition(self):
        outcomes = {}
        for drawing, catalog in catalogs(4 * SEEDS):
            for item in catalog.addresses():
                definition = drawing.definition(catalog, item[0], item) if item[0] in REPLACED else None
                if definition is not None and drawing.chance(50):
                    outcome = self.check(catalog, item, definition)
                    outcomes[outcome] = outcomes.get(outcome, 0) + 1
        for outcome in ["misfit", "needs", (False, False), (True, False), (False, True), (True, True)]:
            self.assertGreater(outcomes.get(outcome, 0), 2)


class ReplacingInRings(unittest.TestCase):
    """Functions without parameters that call one another at will, against all sets that could be kept."""

    NAMES = "fghk"

    def function(self, name):
        return ("function", "a", name)

    def definition(self, result, called):
        body = ("int", 1)
        for name in called:
            body = ("add", body, ("call", ("a", name), ()))
        return ((), result, body if result == "int" else ("less", body, body))

    def catalog(self, calls):
        script = [("create", "schema", "a", ())]
        script += [("create", "function", ("a", name), self.definition("int", "")) for name in calls]
        script += [
            ("replace", "function", ("a", name), self.definition("int", calls[name]), "alone") for name in calls
        ]
        return run(done(Drawing(0).catalog(0), ("drop", "schema", "a", "alone")), script)

    def kept(self, calls, replaced, result):
        """The greatest set of the other names of which each one calls only such, and the replaced one if it still fits."""
        others = [name for name in calls if name != replaced]
        best = set()
        for many in range(len(others) + 1):
            for kept in itertools.combinations(others, many):
                allowed = set(kept) | ({replaced} if result == "int" else set())
                if all(set(calls[name]) <= allowed for name in kept):
                    best |= set(kept)
        return best

    def test_against_all_sets(self):
        outcomes = set()
        for seed in range(400):
            drawing = Drawing(seed)
            calls = {name: [one for one in self.NAMES if drawing.chance(35)] for name in self.NAMES}
            catalog = self.catalog(calls)
            for result in ["int", "truth"]:
                called = [one for one in self.NAMES if drawing.chance(30) and (one != "f" or result == "int")]
                kept = self.kept(calls, "f", result)
                item = self.function("f")
                statement = ("replace", "function", ("a", "f"), self.definition(result, called), "cascade")
                lost = [self.function(name) for name in self.NAMES if name != "f" and name not in kept]
                needed = [one for one in lost if one[2] in called]
                try:
                    self.assertEqual(effects(catalog, statement), (lost, [], []))
                    self.assertEqual(needed, [])
                    after = done(catalog, statement)
                    self.assertTrue(is_valid(after))
                    self.assertEqual(after[item], statement[3])
                    outcomes.add((bool(lost), ring(catalog) is not None, ring(after) is not None))
                except Needs as error:
                    self.assertEqual([error.address, error.other], [item, min(needed)])
                    outcomes.add("needs")
        self.assertEqual(len(outcomes), 8)


def changed(thing, change):
    """A value with what change makes of it and of all tuples and strings in it, from the outside in."""
    new = change(thing)
    if isinstance(new, tuple):
        return tuple(changed(part, change) for part in new)
    return new


class NewAddresses(unittest.TestCase):
    """In these Catalogs no name stands for two things, so that a name can be exchanged wherever it stands."""

    def catalogs(self):
        names = [a + b + c for a in "bcdfg" for b in "aeiou" for c in "klmnp" if a + b + c not in ("int", "add", "not")]
        for seed in range(3 * SEEDS):
            drawing = Drawing(seed, names)
            catalog = drawing.catalog(30)
            own = [item[-1] for item in catalog.addresses() if item[0] != "default"]
            own += [name for item in catalog.addresses() if item[0] == "view" for name in catalog[item][1]]
            if len(set(own)) == len(own) and ring(catalog) is None:
                yield drawing, catalog

    def test_a_rename_is_as_if_the_name_had_been_another_one(self):
        kinds = set()
        for drawing, catalog in self.catalogs():
            for item in catalog.addresses():
                if item[0] != "default" and drawing.chance(50):
                    self.check_rename(catalog, item)
                    kinds.add(item[0])
        self.assertEqual(len(kinds), 10)

    def check_rename(self, catalog, item):
        old, new = item[-1], "zzzzzzzz"
        definitions = {
            address: changed(catalog[address], lambda thing: new if thing == old else thing)
            for address in catalog.addresses()
        }
        definitions = {changed(address, lambda thing: new if thing == old else thing): definitions[address]
                       for address in definitions}
        statement = ("rename", item[0], where_of(item), new)
        after = done(catalog, statement)
        self.assertEqual(after, grown(definitions, catalog.path))
        moved = [(address, changed(address, lambda thing: new if thing == old else thing))
                 for address in catalog.addresses()]
        self.assertEqual(effects(catalog, statement), ([], [], [pair for pair in moved if pair[0] != pair[1]]))
        back = ("rename", item[0], where_of(item[:-1] + (new,)), old)
        self.assertEqual(told(done(after, back)), told(catalog))

    def test_a_move_is_as_if_the_item_had_been_in_the_other_schema(self):
        kinds = set()
        for drawing, catalog in self.catalogs():
            for item in catalog.addresses():
                if item[0] in ("domain", "sequence", "table", "view", "function") and drawing.chance(50):
                    if item[0] == "sequence" and catalog[item] != (None,):
                        with self.assertRaises(Needs):
                            done(catalog, ("move", item[0], where_of(item), item[1]))
                        continue
                    self.check_move(catalog, item)
                    kinds.add(item[0])
        self.assertEqual(len(kinds), 5)

    def check_move(self, catalog, item):
        old = item[1]
        new = [one[1] for one in catalog.addresses() if one[0] == "schema" and one[1] != old][0]
        along = [item[2]]
        if item[0] == "table":
            along += [one[2] for one in catalog.addresses() if one[0] == "index" and catalog[one][0] == item[2]]
            along += [
                one[2] for one in catalog.addresses()
                if one[0] == "sequence" and catalog[one][0] is not None and catalog[one][0][0] == item[2]
            ]
        addresses = {
            one: one[:1] + (new,) + one[2:] if one[1] == old and len(one) > 2 and one[2] in along else one
            for one in catalog.addresses()
        }
        definitions = {addresses[one]: changed(
            catalog[one],
            lambda thing: (new, thing[1]) if isinstance(thing, tuple) and thing in [(old, name) for name in along] else thing,
        ) for one in addresses}
        statement = ("move", item[0], where_of(item), new)
        after = done(catalog, statement)
        self.assertEqual(after, grown(definitions, catalog.path))
        self.assertEqual(effects(catalog, statement), ([], [], [
            (one, addresses[one]) for one in sorted(addresses) if addresses[one] != one
        ]))
        self.assertEqual(told(done(after, ("move", item[0], where_of(addresses[item]), old))), told(catalog))
        with self.assertRaises(Taken) as caught:
            done(catalog, ("move", item[0], where_of(item), old))
        self.assertEqual(caught.exception.address, min(
            one for one in catalog.addresses() if one[1] == old and len(one) == 3 and one[2] in along
        ))


class Turning(unittest.TestCase):
    def test_what_is_found_one_statement_later(self):
        for names in itertools.product("abn", repeat=3):
            drawing = Drawing(sum(map(ord, names)), "abcd")
            catalog = done(drawing.catalog(25), ("path", names))
            for name in "abcdn":
                free, here, behind = turns(catalog, "relation", name)
                self.assertEqual(lookup(catalog, "relation", name), here)
                self.check_created(catalog, names, name, free)
                if here is not None:
                    after = done(catalog, ("drop", here[0], where_of(here), "cascade"))
                    if behind is None or behind in after:
                        self.assertEqual(lookup(after, "relation", name), behind)

    def check_created(self, catalog, names, name, free):
        for schema in "ab":
            try:
                after = done(catalog, ("create", "table", (schema, name), ()))
            except Taken:
                self.assertNotIn(schema, free)
                continue
            self.assertIs(lookup(after, "relation", name) == ("table", schema, name), schema in free)


class ManyItems(unittest.TestCase):
    def test_scripts_that_are_run_at_once(self):
        for seed in range(10):
            drawing = Drawing(seed)
            catalog = drawing.catalog(20)
            statements = [("create", item[0], where_of(item), catalog[item]) for item in catalog.addresses()]
            ordered = []
            while len(ordered) < len(statements):
                for statement in statements:
                    made = [("create", item[0], where_of(item)) for item in supports_of(catalog, statement)]
                    if statement not in ordered and all(one in [done_one[:3] for done_one in ordered] for one in made):
                        ordered.append(statement)
            empty = done(catalog, ("drop", "schema", "a", "cascade"))
            empty = done(empty, ("drop", "schema", "b", "cascade"))
            self.assertEqual(len(empty), 0)
            self.assertEqual(run(empty, ordered), catalog)


def supports_of(catalog, statement):
    """The other items on which the one of a create leans."""
    for item in catalog.addresses():
        if (item[0], where_of(item)) == statement[1:3]:
            return [other for other in supports(catalog, item) if other != item]
    return []
