"""The whole program: rows of drawn statements through several of its parts, held against [5] to [7], [9], [10], [12] to [16]."""

import unittest

from leancatalog.answers import rows_of, rows_of_union
from leancatalog.books import Book
from leancatalog.catalogs import Catalog
from leancatalog.changes import done, effects, run
from leancatalog.dumps import dump, is_dump
from leancatalog.errors import CatalogError, Ring, TooMany
from leancatalog.events import choices
from leancatalog.falls import falls
from leancatalog.leans import ring
from leancatalog.merging import merged
from leancatalog.migrations import is_migration, is_tree, migrate
from leancatalog.notation import read_script, read_statement, show_script, show_statement
from leancatalog.plans import Plan, is_judged, judged
from leancatalog.reading import faults, read
from leancatalog.rights import RIGHTS, Rights
from tests.drawn import Drawing, is_valid
from tests.pairs import cost_told

KINDS = ["table", "column", "column", "column", "view", "view", "function", "domain", "index", "sequence", "default", "check", "trigger"]
ROLES = ["ann", "bob", "cid"]


def told(catalog):
    """All that a Catalog says of itself."""
    return catalog.path, [
        (item, catalog[item], catalog.needs(item), catalog.offers(item), catalog.leaners(item)) for item in catalog.addresses()
    ]


def states(catalog):
    return {item: (catalog[item], catalog.needs(item)) for item in catalog.addresses()}


def next_statement(drawing, catalog):
    statement = drawing.change(catalog) if drawing.chance(60) else drawing.create(catalog, KINDS)
    return statement if statement is not None else ("path", catalog.path)


class Rows(unittest.TestCase):
    def check(self, catalog):
        """Whether a Catalog is valid, and as its definitions say when they are read again."""
        self.assertTrue(is_valid(catalog))
        items = states(catalog)
        self.assertEqual(faults(items), [])
        for item in items:
            self.assertEqual(read(catalog, item, catalog[item]), catalog.needs(item))

    def book(self, drawing, catalog, many):
        """A Book of drawn statements, and the Catalogs that it went through with all that they said."""
        book, seen = Book(catalog), []
        for _ in range(many):
            statement = next_statement(drawing, book.catalog)
            before = book.catalog
            try:
                fallen, anew, moved = book.do(statement)
            except CatalogError as error:
                with self.assertRaises(type(error)):
                    effects(before, statement)
                self.assertIs(book.catalog, before)
                continue
            self.assertEqual(book.catalog, done(before, statement))
            self.check(book.catalog)
            if statement[0] == "drop":
                self.assertEqual(states(book.catalog), {item: states(before)[item] for item in before.addresses() if item not in fallen})
            if fallen and statement[0] == "drop":
                self.assertIn(fallen, [falls(before, item) for item in fallen])
            self.assertLessEqual(set(anew), set(book.catalog.addresses()))
            self.assertEqual([old for old, _ in moved if old not in before], [])
            seen.append((book.catalog, told(book.catalog)))
        return book, seen

    def test_through_all_parts(self):
        words = {}
        for seed in range(70):
            drawing = Drawing(seed, "abcdef")
            start = drawing.catalog(30)
            book, seen = self.book(drawing, start, 14)
            branch = book.branch()
            while len(branch) > len(book) // 2:
                branch.back()
            base = branch.catalog
            self.through_notation(start, book)
            self.through_a_dump(book.catalog)
            self.through_a_migration(start, book.catalog, words)
            side, more = self.book(drawing, base, 6)
            self.through_a_merge(base, book.catalog, side.catalog, words)
            self.through_late_and_lose(drawing, book)
            self.with_rights(drawing, start, [catalog for catalog, _ in seen])
            self.with_plans(drawing, start, [catalog for catalog, _ in seen], words)
            for catalog, before in seen + more:
                self.assertEqual(told(catalog), before)
        self.assertGreater(min(words.values()), 10)
        self.assertLessEqual({"order", "merged", "clashes", "fresh", "stale", "broken"}, set(words))

    def through_notation(self, start, book):
        log = book.log()
        text = show_script(log)
        self.assertEqual(read_script(text), log)
        self.assertEqual([read_statement(show_statement(statement)) for statement in log], log)
        self.assertEqual(run(start, read_script(text)), book.catalog)
        self.assertEqual(Book(start).tried(read_script(text)), book.catalog)

    def through_a_dump(self, catalog):
        try:
            statements = dump(catalog)
        except Ring as error:
            self.assertEqual(error.functions, ring(catalog))
            return None
        self.assertIsNone(ring(catalog))
        self.assertIs(is_dump(catalog, statements), True)
        again = run(Catalog(), read_script(show_script(statements + [("path", catalog.path)])))
        self.assertEqual(again, catalog)
        self.assertEqual(told(again), told(catalog))
        return again

    def through_a_migration(self, one, other, words):
        again = self.through_a_dump(other)
        for goal in [other] + [again] * (again is not None):
            try:
                found = migrate(one, goal)
            except TooMany:
                continue
            words[found[0]] = words.get(found[0], 0) + 1
            if found[0] == "none":
                self.assertIs(is_tree(one, goal, choices(one, goal)[0], None, found[1]), True)
                continue
            self.assertIs(is_migration(one, goal, read_script(show_script(found[1]))), True)
            self.assertEqual(states(run(one, found[1])), states(goal))
            self.assertIs(is_tree(one, goal, choices(one, goal)[0], cost_told(one, goal, found[2]) - 1, found[3]), True)
            self.assertEqual(migrate(run(one, found[1]), goal)[1], [])

    def through_a_merge(self, base, one, other, words):
        found = merged(base, one, other)
        words[found[0]] = words.get(found[0], 0) + 1
        self.assertEqual(found, merged(base, other, one))
        if found[0] == "clashes":
            self.assertEqual(len({str(clash) for clash in found[1]}), len(found[1]))
            return
        total = found[1]
        self.check(total)
        self.through_a_dump(total)
        for side in (one, other):
            self.assertEqual(merged(base, total, side), ("merged", total))
            self.through_a_migration(side, total, words)
        rights = Rights(base, ROLES, "ann")
        both = Rights(base, ROLES, "ann")
        self.assertEqual(rights.follow(total, "bob"), [])
        both.follow(one, "cid")
        both.follow(other, "cid")
        both.follow(total, "cid")
        # What both branches have kept of the base stands in the sum, and it is the same.
        kept = [item for item in total.addresses() if item[0] in RIGHTS and both.owner(item) == "ann"]
        self.assertEqual([rights.owner(item) for item in kept], ["ann"] * len(kept))

    def through_late_and_lose(self, drawing, book):
        before, log = book.catalog, book.log()
        at = drawing.random.randrange(len(log) + 1)
        with book.trial():
            book.late(at, ("path", book.after(at).path))
            self.assertEqual(book.catalog, before)
            self.check(book.catalog)
            book.lose(at)
            self.assertEqual((book.catalog, book.log()), (before, log))
        self.assertIs(book.catalog, before)

    def with_rights(self, drawing, start, catalogs):
        rights, at_once = Rights(start, ROLES, "ann"), Rights(start, ROLES, "ann")
        for item in start.addresses():
            if item[0] in RIGHTS and len(rights) < 58:
                for keeper in (rights, at_once):
                    keeper.give("ann", "bob", item, RIGHTS[item[0]][0], True)
                    keeper.give("bob", "cid", item, RIGHTS[item[0]][0], False)
        gone = []
        for catalog in catalogs:
            gone += rights.follow(catalog, "cid")
            for giver, _, item, right, _ in rights.grants():
                self.assertIs(rights.holds_onward(giver, item, right), True)
                self.assertIn(item, catalog)
        if catalogs:
            self.assertEqual(len(at_once.follow(catalogs[-1], "cid")), len(gone))
        self.assertEqual(at_once.grants(), rights.grants())

    def with_plans(self, drawing, start, catalogs, words):
        sources = drawing.items(start, "table", "view")
        if not sources:
            return
        for _ in range(4):
            try:
                plan = Plan(start, drawing.query(start, sources))
            except TooMany:
                continue
            for catalog in catalogs:
                try:
                    found = judged(catalog, plan)
                except TooMany:
                    continue
                words[found[0]] = words.get(found[0], 0) + 1
                self.assertIs(is_judged(catalog, plan, found), True)
                if found[0] == "stale":
                    kept = rows_of_union(catalog, plan.joins(catalog), found[1])
                    new = rows_of(catalog, plan.query, found[1])
                    self.assertEqual((found[2] in kept, found[2] in new), (found[3] == "kept", found[3] == "new"))
                if found[0] == "fresh":
                    data = drawing.data(catalog)
                    self.assertEqual(rows_of_union(catalog, plan.joins(catalog), data), rows_of(catalog, plan.query, data))
