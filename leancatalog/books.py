"""Books of changes: a log of statements that can be undone, done again and changed, with the Catalog behind each."""

from leancatalog.changes import done, outcome
from leancatalog.errors import CatalogError, NoStatement, Nothing, Stopped, TooMany, Wrong
from leancatalog.statements import is_statement
from leancatalog.words import is_integer

LONGEST_LOG = 400


def is_count(thing, most):
    """Whether thing, any value, is an integer from 0 to most."""
    return is_integer(thing) and 0 <= thing <= most


class Trial:
    """What keeps a Book as it is when a block is entered, and puts it back behind the block."""

    def __init__(self, book):
        self._book = book
        self._kept = None

    def __enter__(self):
        """Keeps what the Book has; the Catalog that stands there."""
        self._kept = self._book._now
        return self._book.catalog

    # It returns nothing, so errors go on.
    def __exit__(self, kind, value, trace):
        self._book._now = self._kept


class Book:
    """A Catalog with the log of the statements by which it came from the first one."""

    def __init__(self, catalog):
        self._start = catalog
        # Tuples, so that what is kept of them stays as it was: the log, the Catalogs behind the start and behind each
        # of its statements, and the tuples (statement, Catalog) to do again, the next one last.
        self._now = ((), (catalog,), ())

    @property
    def catalog(self):
        """The Catalog as it stands."""
        return self._now[1][-1]

    @property
    def start(self):
        """The first Catalog."""
        return self._start

    def __len__(self):
        """The number of the statements in the log."""
        return len(self._now[0])

    def __eq__(self, other):
        """Whether other is a Book with an equal start and an equal log."""
        return isinstance(other, Book) and self._start == other._start and self._now[0] == other._now[0]

    def do(self, statement):
        """Does a statement; what it has changed, as effects tells it."""
        if not is_statement(statement):
            raise NoStatement()
        log, catalogs, _ = self._now
        if len(log) >= LONGEST_LOG:
            raise TooMany(LONGEST_LOG)
        told = outcome(catalogs[-1], statement)
        self._now = (log + (statement,), catalogs + told[:1], ())
        return told[1:]

    def back(self):
        """Undoes the last statement of the log, and returns it."""
        log, catalogs, undone = self._now
        if not log:
            raise Nothing()
        self._now = (log[:-1], catalogs[:-1], undone + ((log[-1], catalogs[-1]),))
        return log[-1]

    def again(self):
        """Does the statement again that was undone last, and returns it."""
        log, catalogs, undone = self._now
        if not undone:
            raise Nothing()
        statement, catalog = undone[-1]
        self._now = (log + (statement,), catalogs + (catalog,), undone[:-1])
        return statement

    def _run_again(self, log, at):
        """Takes on a log that is as it was up to an index, and runs what stands in it from there on."""
        catalogs = list(self._now[1][:at + 1])
        for index in range(at, len(log)):
            try:
                catalogs.append(done(catalogs[-1], log[index]))
            except CatalogError as why:
                raise Stopped(index) from why
        self._now = (log, tuple(catalogs), ())

    def late(self, at, statement):
        """Puts a statement into the log ahead of the one at an index, or behind the last one."""
        log = self._now[0]
        if not is_count(at, len(log)):
            raise Wrong(0)
        if len(log) >= LONGEST_LOG:
            raise TooMany(LONGEST_LOG)
        self._run_again(log[:at] + (statement,) + log[at:], at)

    def lose(self, at):
        """Takes the statement at an index out of the log."""
        log = self._now[0]
        if not is_count(at, len(log) - 1):
            raise Wrong(0)
        self._run_again(log[:at] + log[at + 1:], at)

    def log(self):
        """The statements that are done and not undone."""
        return list(self._now[0])

    def after(self, many):
        """The Catalog behind the first statements of the log, so many of them."""
        if not is_count(many, len(self._now[0])):
            raise Wrong(0)
        return self._now[1][many]

    def branch(self):
        """A Book with the same start, log, Catalogs and statements to do again."""
        made = Book(self._start)
        made._now = self._now
        return made

    def trial(self):
        """A context manager behind whose block the Book is again as it was when the block was entered."""
        return Trial(self)

    def tried(self, statements):
        """The Catalog that would stand behind the statements of a list."""
        if not isinstance(statements, list):
            raise Wrong(0)
        with self.trial():
            for at, statement in enumerate(statements):
                try:
                    self.do(statement)
                except CatalogError as why:
                    raise Stopped(at) from why
            return self.catalog
