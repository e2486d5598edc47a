"""[102], [103] books, with [6], [7], [60], [62], [66]."""

import random
import time
import unittest

from leancatalog.books import Book
from leancatalog.catalogs import Catalog
from leancatalog.changes import done, effects, run
from leancatalog.errors import CatalogError, Hangs, NoItem, NoName, NoStatement, Nothing, Stopped, Taken, TooMany, Wrong
from leancatalog.rights import Rights
from tests.build import ORDERS, SHOP, shop
from tests.drawn import Drawing
from tests.stub import Odd, all_sorts, otherwise

APP = ("create", "schema", "app", ())
OLD = ("create", "schema", "old", ())
PATH = ("path", ("app",))
T = ("create", "table", "t", ())
A = ("create", "column", ("t", "a"), ("int", None))
Q = ("create", "sequence", "q", (None,))
SCRIPT = [APP, PATH, T, A, Q]


def book_of(*statements, catalog=None):
    book = Book(Catalog() if catalog is None else catalog)
    for statement in statements:
        book.do(statement)
    return book


def told(book):
    """All that a Book says of itself."""
    return (book.start, book.catalog, book.log(), len(book), [book.after(many) for many in range(len(book) + 1)], book_to_do_again(book))


def book_to_do_again(book):
    """The statements that can be done again, in their order."""
    other, found = book.branch(), []
    while True:
        try:
            found.append((other.again(), other.catalog))
        except Nothing:
            return found


def same_items(one, other):
    """The addresses in one at which the same items stand in other, found by the rights that follow them."""
    found = []
    for item in one.addresses():
        if item[0] in ("schema", "table", "sequence", "domain", "view", "function"):
            rights = Rights(one, ["a", "b"], "a")
            rights.follow(other, "b")
            if item in other and rights.owner(item) == "a":
                found.append(item)
    return found


class Books(unittest.TestCase):
    def raises(self, error, fields, book, call, *arguments):
        before = told(book)
        with self.assertRaises(error) as caught:
            call(*arguments)
        self.assertEqual(vars(caught.exception), fields)
        self.assertEqual(told(book), before)


class Doing(Books):
    def test_at_first(self):
        catalog = shop()
        book = Book(catalog)
        self.assertIs(book.catalog, catalog)
        self.assertIs(book.start, catalog)
        self.assertEqual((book.log(), len(book)), ([], 0))
        self.assertIs(book.after(0), catalog)

    def test_step_by_step(self):
        book, catalog = Book(Catalog()), Catalog()
        for at, statement in enumerate(SHOP):
            self.assertEqual(book.do(statement), effects(catalog, statement))
            catalog = done(catalog, statement)
            self.assertEqual((book.catalog, len(book), book.log()), (catalog, at + 1, SHOP[:at + 1]))
        self.assertEqual(book.start, Catalog())
        for many in range(len(SHOP) + 1):
            self.assertEqual(book.after(many), run(Catalog(), SHOP[:many]))

    def test_what_it_returns(self):
        book = Book(shop())
        self.assertEqual(book.do(("rename", "sequence", "ids", "q")), ([], [], [(("sequence", "app", "ids"), ("sequence", "app", "q"))]))
        fallen, anew, moved = book.do(("replace", "column", ("orders", "net"), ("text", None), "cascade"))
        self.assertEqual((bool(fallen), bool(anew), moved), (True, True, []))

    def test_the_log_has_statements_as_they_were_passed(self):
        book = book_of(*SCRIPT)
        self.assertEqual(book.log(), SCRIPT)
        book.log().clear()
        self.assertEqual(book.log(), SCRIPT)

    def test_errors_in_their_order(self):
        book = book_of(*SCRIPT)
        for thing in all_sorts() + [Odd(), list(T), ("create", "table", "t", [])] + list(otherwise(T)):
            self.raises(NoStatement, {}, book, book.do, thing)
        self.raises(NoName, {"space": "relation", "name": "z"}, book, book.do, ("drop", "table", "z", "alone"))
        self.raises(NoItem, {"address": ("table", "app", "z")}, book, book.do, ("drop", "table", ("app", "z"), "alone"))
        self.raises(Taken, {"address": ("table", "app", "t")}, book, book.do, T)
        self.raises(Hangs, {"address": ("table", "app", "t"), "other": ("column", "app", "t", "a")}, book, book.do, ("drop", "table", "t", "alone"))
        book = book_of(*[("path", ("a",))] * 400)
        self.raises(NoStatement, {}, book, book.do, None)
        self.raises(TooMany, {"limit": 400}, book, book.do, ("drop", "table", "z", "alone"))
        self.raises(TooMany, {"limit": 400}, book, book.do, PATH)
        book.back()
        book.do(PATH)
        self.assertEqual(len(book), 400)


class Undoing(Books):
    def test_back_and_again(self):
        book = book_of(*SCRIPT)
        catalogs = [book.after(many) for many in range(len(SCRIPT) + 1)]
        for many in reversed(range(len(SCRIPT))):
            self.assertEqual(book.back(), SCRIPT[many])
            self.assertIs(book.catalog, catalogs[many])
            self.assertEqual((len(book), book.log()), (many, SCRIPT[:many]))
        self.raises(Nothing, {}, book, book.back)
        for many, statement in enumerate(SCRIPT):
            self.assertEqual(book.again(), statement)
            self.assertIs(book.catalog, catalogs[many + 1])
        self.raises(Nothing, {}, book, book.again)

    def test_the_catalog_that_was_there(self):
        book = book_of(*SCRIPT)
        before = book.catalog
        book.back()
        book.again()
        self.assertIs(book.catalog, before)
        self.assertEqual(same_items(before, book.catalog), [item for item in before.addresses() if item[0] != "column"])

    def test_nothing_to_do_again_behind_do_late_and_lose(self):
        for deed in [lambda book: book.do(OLD), lambda book: book.late(0, OLD), lambda book: book.lose(2), lambda book: book.late(3, OLD)]:
            book = book_of(*SCRIPT)
            book.back()
            book.back()
            deed(book)
            self.raises(Nothing, {}, book, book.again)

    def test_what_is_refused_leaves_what_can_be_done_again(self):
        book = book_of(*SCRIPT)
        book.back()
        book.back()
        for call, error in [(lambda: book.do(T), Taken), (lambda: book.do(None), NoStatement), (lambda: book.late(0, T), Stopped),
                            (lambda: book.late(9, T), Wrong), (lambda: book.lose(0), Stopped), (lambda: book.lose(3), Wrong)]:
            with self.assertRaises(error):
                call()
        self.assertEqual([book.again(), book.again()], [A, Q])

    def test_back_behind_late_and_lose(self):
        book = book_of(*SCRIPT)
        book.late(1, OLD)
        self.assertEqual([book.back(), book.back()], [Q, A])
        book.lose(1)
        self.assertEqual([book.log(), book.back(), book.log()], [[APP, PATH, T], T, [APP, PATH]])
        self.assertEqual(book.again(), T)


class LateAndLose(Books):
    def test_late_at_each_index(self):
        for at in range(len(SCRIPT) + 1):
            book = book_of(*SCRIPT)
            before = [book.after(many) for many in range(len(SCRIPT) + 1)]
            self.assertIsNone(book.late(at, OLD))
            log = SCRIPT[:at] + [OLD] + SCRIPT[at:]
            self.assertEqual((book.log(), len(book), book.catalog), (log, len(log), run(Catalog(), log)))
            for many in range(len(log) + 1):
                self.assertEqual(book.after(many), run(Catalog(), log[:many]))
            for many in range(at + 1):
                self.assertIs(book.after(many), before[many])

    def test_lose_at_each_index(self):
        script = [APP, OLD, PATH, T, A, Q, ("path", ())]
        for at in range(len(script)):
            book = book_of(*script)
            log = script[:at] + script[at + 1:]
            if at in (0, 2, 3):
                self.raises(Stopped, {"at": {0: 2, 2: 2, 3: 3}[at]}, book, book.lose, at)
                continue
            self.assertIsNone(book.lose(at))
            self.assertEqual((book.log(), book.catalog), (log, run(Catalog(), log)))
            for many in range(len(log) + 1):
                self.assertEqual(book.after(many), run(Catalog(), log[:many]))

    def test_wrong_arguments(self):
        book = book_of(*SCRIPT)
        for thing in all_sorts() + [Odd(), -1, 6, "0", 10 ** 40, -10 ** 40, [0], (0,)]:
            self.raises(Wrong, {"place": 0}, book, book.late, thing, OLD)
            self.raises(Wrong, {"place": 0}, book, book.late, thing, thing)
            self.raises(Wrong, {"place": 0}, book, book.lose, thing)
            self.raises(Wrong, {"place": 0}, book, book.after, thing)
        self.raises(Wrong, {"place": 0}, book, book.lose, 5)
        empty = Book(shop())
        self.raises(Wrong, {"place": 0}, empty, empty.lose, 0)
        self.raises(Wrong, {"place": 0}, empty, empty.late, 1, OLD)
        empty.late(0, ("path", ()))
        self.assertEqual(empty.catalog.path, ())

    def test_errors_of_late_in_their_order(self):
        book = book_of(*[("path", ("a",))] * 400)
        self.raises(Wrong, {"place": 0}, book, book.late, 401, None)
        self.raises(TooMany, {"limit": 400}, book, book.late, 400, None)
        self.raises(TooMany, {"limit": 400}, book, book.late, 0, PATH)
        book.lose(399)
        self.raises(Stopped, {"at": 7}, book, book.late, 7, None)
        book.late(7, PATH)
        self.assertEqual((len(book), book.log()[7]), (400, PATH))

    def test_what_is_not_a_statement_or_is_refused(self):
        book = book_of(*SCRIPT)
        for thing in all_sorts() + [Odd(), list(OLD)]:
            for at in range(6):
                self.raises(Stopped, {"at": at}, book, book.late, at, thing)
        self.raises(Stopped, {"at": 2}, book, book.late, 2, APP)
        self.raises(Stopped, {"at": 1}, book, book.late, 1, APP)
        self.raises(Stopped, {"at": 1}, book, book.late, 0, APP)
        self.raises(Stopped, {"at": 3}, book, book.late, 2, ("path", ()))
        self.raises(Stopped, {"at": 5}, book, book.late, 4, ("create", "table", "q", ()))
        self.raises(Stopped, {"at": 4}, book, book.late, 3, ("drop", "table", "t", "alone"))
        self.raises(Stopped, {"at": 5}, book, book.late, 5, T)

    def test_items_ahead_stay_the_same_and_items_made_again_are_new(self):
        book = book_of(*SCRIPT)
        before = book.catalog
        book.late(3, OLD)
        self.assertEqual(same_items(before, book.catalog), [("schema", "app"), ("table", "app", "t")])
        book.lose(3)
        self.assertEqual(book.catalog, before)
        self.assertEqual(same_items(before, book.catalog), [("schema", "app"), ("table", "app", "t")])
        book.late(2, OLD)
        self.assertEqual(same_items(before, book.catalog), [("schema", "app")])
        book.late(0, ("create", "schema", "new", ()))
        self.assertEqual(same_items(before, book.catalog), [])

    def test_ahead_of_and_behind_an_items_making(self):
        book = book_of(APP, PATH, T, ("rename", "table", "t", "u"))
        self.raises(Stopped, {"at": 4}, book, book.late, 2, ("create", "sequence", "u", (None,)))
        book.late(3, ("create", "column", ("t", "a"), ("int", None)))
        self.assertEqual(book.catalog.addresses(), [("column", "app", "u", "a"), ("schema", "app"), ("table", "app", "u")])
        book.lose(4)
        self.assertIn(("column", "app", "t", "a"), book.catalog)

    def test_names_are_looked_for_anew(self):
        book = book_of(APP, OLD, PATH, T, A)
        book.late(3, ("path", ("old",)))
        self.assertEqual(book.log()[4:], [T, A])
        self.assertIn(("column", "old", "t", "a"), book.catalog)


class Others(Books):
    def test_branches(self):
        book = book_of(*SCRIPT)
        book.back()
        branch = book.branch()
        self.assertEqual(told(branch), told(book))
        for many in range(5):
            self.assertIs(branch.after(many), book.after(many))
        before = told(book)
        branch.do(OLD)
        branch.late(0, ("create", "schema", "new", ()))
        branch.lose(5)
        branch.do(("rename", "table", "t", "u"))
        branch.back()
        self.assertEqual(told(book), before)
        kept = told(branch)
        book.again()
        book.do(OLD)
        self.assertEqual(told(branch), kept)
        self.assertEqual(branch.again(), ("rename", "table", "t", "u"))

    def test_two_books_by_turns(self):
        one, other = Book(Catalog()), Book(Catalog())
        for at, statement in enumerate(SHOP):
            one.do(statement)
            if at % 2:
                other.do(("path", ("a",) * (at % 8)))
        self.assertEqual((one.log(), len(other)), (SHOP, len(SHOP) // 2))
        self.assertEqual(one.catalog, run(Catalog(), SHOP))
        self.assertEqual(len(other.catalog), 0)

    def test_equal_ones(self):
        book, other = book_of(*SCRIPT), book_of(*SCRIPT)
        self.assertTrue(book == other)
        self.assertFalse(book != other)
        self.assertTrue(book == book.branch())
        other.do(OLD)
        self.assertFalse(book == other)
        other.back()
        self.assertTrue(book == other)
        self.assertTrue(Book(shop()) == Book(shop()))
        self.assertFalse(Book(shop()) == Book(Catalog()))
        self.assertFalse(book_of(OLD, APP) == book_of(APP, OLD))
        self.assertFalse(book_of(APP) == Book(run(Catalog(), [APP])))
        self.assertFalse(book_of(("drop", "schema", ("app"), "alone"), catalog=run(Catalog(), [APP])) ==
                         book_of(("drop", "schema", "app", "restrict"), catalog=run(Catalog(), [APP])))
        for thing in all_sorts() + [book.catalog, book.log(), SCRIPT]:
            self.assertIs(book == thing, False)
            self.assertIs(book != thing, True)

    def test_four_hundred_statements(self):
        began = time.perf_counter()
        book = Book(shop())
        for k in range(200):
            book.do(("rename", "table", "orders" if k % 2 == 0 else "bills", "bills" if k % 2 == 0 else "orders"))
            book.do(("path", ("app", "old")))
        self.assertEqual(len(book), 400)
        book.lose(1)
        book.late(0, ("path", ("old", "app")))
        book.back()
        self.assertEqual(book.tried([("path", ())]).path, ())
        while len(book):
            book.back()
        self.assertEqual(book.catalog, shop())
        self.assertLess(time.perf_counter() - began, 20)

    def test_drawn_deeds_against_lists(self):
        """Each deed against a model: the log, and what can be done again, with each catalog run anew."""
        words = {}
        for seed in range(25):
            drawing = Drawing(seed)
            start = drawing.catalog(12)
            book, log, undone = Book(start), [], []
            for _ in range(30):
                word = drawing.one(["do", "do", "do", "back", "again", "late", "lose"])
                statement = drawing.change(book.catalog) or ("path", ())
                at = drawing.random.randrange(len(log) + 1)
                call = {"do": lambda: book.do(statement), "late": lambda: book.late(at, statement), "lose": lambda: book.lose(at),
                        "back": book.back, "again": book.again}[word]
                expected, new_log, new_undone = self.expected(word, start, log, undone, at, statement)
                try:
                    told_by_it = call()
                    found = "done"
                    if word == "do":
                        self.assertEqual(told_by_it, effects(run(start, log), statement))
                except CatalogError as error:
                    found = (type(error), vars(error))
                self.assertEqual(found, expected)
                log, undone = new_log, new_undone
                words[word, expected == "done"] = words.get((word, expected == "done"), 0) + 1
                self.assertEqual((book.log(), len(book), book.catalog), (log, len(log), run(start, log)))
                self.assertEqual([statement for statement, _ in book_to_do_again(book)], undone[::-1])
        self.assertEqual(len(words), 10)

    def expected(self, word, start, log, undone, at, statement):
        """What comes of a deed, the log and the statements to do again behind it."""
        same = (log, undone)
        if word == "back":
            return ("done", log[:-1], undone + log[-1:]) if log else ((Nothing, {}), *same)
        if word == "again":
            return ("done", log + undone[-1:], undone[:-1]) if undone else ((Nothing, {}), *same)
        if word == "do":
            try:
                done(run(start, log), statement)
            except CatalogError as error:
                return ((type(error), vars(error)), *same)
            return "done", log + [statement], []
        if word == "lose" and at == len(log):
            return ((Wrong, {"place": 0}), *same)
        new = log[:at] + [statement] * (word == "late") + log[at + (word == "lose"):]
        try:
            run(start, new)
        except Stopped as error:
            return ((Stopped, {"at": error.at}), *same)
        return "done", new, []


class Trials(Books):
    def test_left_by_its_end(self):
        book = book_of(*SCRIPT)
        book.back()
        before = told(book)
        with book.trial() as held:
            self.assertIs(held, book.catalog)
            book.do(OLD)
            book.lose(3)
            book.back()
            self.assertNotEqual(told(book), before)
        self.assertEqual(told(book), before)
        self.assertEqual(book.again(), Q)

    def test_left_by_an_error(self):
        book = book_of(*SCRIPT)
        before = told(book)
        for error in (KeyError, Taken, StopIteration):
            with self.assertRaises(error):
                with book.trial():
                    book.do(OLD)
                    if error is Taken:
                        book.do(OLD)
                    raise error
            self.assertEqual(told(book), before)

    def test_left_otherwise(self):
        book = book_of(*SCRIPT)
        before = told(book)

        def inside():
            with book.trial():
                book.do(OLD)
                return book.catalog

        self.assertEqual(inside(), run(Catalog(), SCRIPT + [OLD]))
        for statement in [OLD, OLD]:
            with book.trial():
                book.do(statement)
                if len(book) == 6:
                    continue
        self.assertEqual(told(book), before)

    def test_nested(self):
        book = book_of(*SCRIPT)
        before = told(book)
        with book.trial():
            book.do(OLD)
            inner = told(book)
            with book.trial() as held:
                self.assertIn(("schema", "old"), held)
                book.back()
                book.back()
            self.assertEqual(told(book), inner)
            with self.assertRaises(Nothing):
                with book.trial():
                    book.again()
            self.assertEqual(told(book), inner)
        self.assertEqual(told(book), before)

    def test_as_it_was_when_the_block_was_entered(self):
        book = book_of(APP)
        trial = book.trial()
        book.do(OLD)
        before = told(book)
        with trial as held:
            self.assertIs(held, book.catalog)
            book.back()
        self.assertEqual(told(book), before)

    def test_branches_of_a_trial_stay(self):
        book = book_of(APP)
        with book.trial():
            book.do(OLD)
            branch = book.branch()
        self.assertEqual((branch.log(), book.log()), ([APP, OLD], [APP]))


class Tried(Books):
    def test_right_lists(self):
        book = book_of(APP)
        before = told(book)
        self.assertEqual(book.tried([PATH, T, A]), run(Catalog(), [APP, PATH, T, A]))
        self.assertIs(book.tried([]), book.catalog)
        self.assertEqual(told(book), before)
        self.assertEqual(same_items(book.catalog, book.tried([PATH, T])), [("schema", "app")])

    def test_stopped(self):
        book = book_of(*SCRIPT)
        book.back()
        right = [OLD, ("drop", "schema", "old", "alone")] * 3
        for at in (0, 3, 6):
            for wrong in [T, None, Odd(), list(OLD), ("drop", "table", "z", "alone"), ()]:
                self.raises(Stopped, {"at": at}, book, book.tried, right[:at] + [wrong] + right[at:])
                self.raises(Stopped, {"at": at}, book, book.tried, right[:at] + [wrong] * 3)

    def test_what_is_no_list(self):
        book = book_of(*SCRIPT)
        for thing in all_sorts() + [Odd(), (OLD,), OLD, {0: OLD}]:
            if not isinstance(thing, list):
                self.raises(Wrong, {"place": 0}, book, book.tried, thing)
            elif thing:
                self.raises(Stopped, {"at": 0}, book, book.tried, thing)

    def test_up_to_four_hundred_and_no_further(self):
        book = book_of(*[PATH] * 390)
        self.assertEqual(book.tried([("path", ("b",))] * 10).path, ("b",))
        self.raises(Stopped, {"at": 10}, book, book.tried, [("path", ("b",))] * 11)
        self.assertEqual(len(Book(Catalog()).tried([APP] + [PATH] * 399)), 1)
        self.raises(Stopped, {"at": 400}, Book(Catalog()), Book(Catalog()).tried, [PATH] * 401)

    def test_of_drawn_lists(self):
        drawn = random.Random(3)
        for _ in range(40):
            book = book_of(*SCRIPT)
            statements = [drawn.choice(SCRIPT + [OLD, ("drop", "table", "t", "cascade"), ("drop", "sequence", "q", "alone")]) for _ in range(4)]
            try:
                self.assertEqual(book.tried(statements), run(book.catalog, statements))
            except Stopped as error:
                self.raises(Stopped, {"at": error.at}, book, book.tried, statements)
                with self.assertRaises(Stopped) as caught:
                    run(book.catalog, statements)
                self.assertEqual(caught.exception.at, error.at)


class ExampleOfTheDocument(unittest.TestCase):
    def test_it(self):
        book = Book(Catalog())
        book.do(APP)
        with book.trial() as held:
            book.do(OLD)
            inside = [len(held), len(book.catalog)]
        self.assertEqual([inside, len(book.catalog), book.log()], [[1, 2], 1, [APP]])
        self.assertNotIn(ORDERS, book.catalog)
