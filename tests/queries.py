"""Queries and views for the tests, written shortly, and a Catalog of the tables that they are over."""

from leancatalog.catalogs import Catalog
from leancatalog.changes import run

ONE, TWO, TEXT = ("int", 1), ("int", 2), ("text", "t")


def of(alias, name):
    return ("of", alias, name)


def var(k):
    return ("var", k)


def part(sources, conditions, *outputs):
    """A part of a query: sources as "o:t p:u", aliases with names."""
    return (tuple(tuple(source.split(":")) for source in sources.split()), tuple(conditions), outputs)


def view(layer, names, *parts):
    return (layer, tuple(names.split()), parts)


T, U, V = [("table", "app", name) for name in "tuv"]


def tables(*views):
    """A Catalog with tables t (a, b int, c text), u (a int, c text), v (a int), and views, (name, definition)."""
    script = [("create", "schema", "app", ()), ("path", ("none", "app"))]
    for name, columns in [("t", "abc"), ("u", "ac"), ("v", "a")]:
        script.append(("create", "table", name, ()))
        script += [("create", "column", (name, column), ("text" if column == "c" else "int", None)) for column in columns]
    return run(Catalog(), script + [("create", "view", name, definition) for name, definition in views])
