"""Catalogs, statements, queries and data that are drawn, and catalogs that are grown item by item."""

import random

from leancatalog.catalogs import Catalog
from leancatalog.changes import done, run
from leancatalog.errors import CatalogError

RELATIONS = ("table", "view", "sequence", "index")
WAYS = ("alone", "restrict", "cascade")


def where_of(address):
    """The where, with a full ref, of the item at an address."""
    if address[0] == "schema":
        return address[1]
    return address[1:] if len(address) == 3 else (address[1:3], address[3])


def grown(definitions, path):
    """The Catalog of all that can be created of a dict from addresses to definitions, as long as something can."""
    catalog = run(Catalog(), [("path", path)])
    left = sorted(definitions)
    while left:
        after = []
        for address in left:
            try:
                catalog = done(catalog, ("create", address[0], where_of(address), definitions[address]))
            except CatalogError:
                after.append(address)
        if after == left:
            return catalog
        left = after
    return catalog


def definitions_of(catalog):
    return {address: catalog[address] for address in catalog.addresses()}


def is_valid(catalog):
    """Whether each need of each item is met, and no name stands twice in a space, by what the catalog says."""
    seen = set()
    for address in catalog.addresses():
        space = ("relation",) + address[1:] if address[0] in RELATIONS else address
        if space in seen:
            return False
        seen.add(space)
        for item, part, wanted, _ in catalog.needs(address):
            if item not in catalog:
                return False
            offers = dict(catalog.offers(item))
            if wanted is None:
                continue
            if isinstance(wanted, tuple) and wanted[0] == "below":
                if item[0] != "view" or not offers[None] < wanted[1]:
                    return False
            elif offers.get(part) != wanted:
                return False
    return len(catalog) <= 120


class Drawing:
    """What draws, always the same for a seed."""

    def __init__(self, seed, names="abcdef"):
        self.random = random.Random(seed)
        self.names = names

    def one(self, things):
        return self.random.choice(list(things))

    def chance(self, percent):
        return self.random.randrange(100) < percent

    def name(self):
        return self.one(self.names)

    def items(self, catalog, *kinds):
        return [address for address in catalog.addresses() if address[0] in kinds]

    def columns(self, catalog, table, plain=False):
        """A dict from the columns of a table, the plain ones alone, to their base types."""
        return {
            item[3]: dict(catalog.offers(item))[None] for item in self.items(catalog, "column")
            if item[1:3] == table[1:] and (not plain or ("plain", dict(catalog.offers(item))[None]) in catalog.offers(item))
        }

    def constant(self, base):
        return ("int", self.random.randrange(3)) if base == "int" else ("text", self.one("xyz"))

    def expression(self, catalog, wanted, place, leaves, depth=2):
        """An expression of a type; leaves is a dict from leaves that may stand in it to their types."""
        fitting = [leaf for leaf in leaves if leaves[leaf] == wanted]
        if place == "default" and wanted == "int":
            fitting += [("next", item[1:]) for item in self.items(catalog, "sequence")]
        if fitting and self.chance(60):
            return self.one(fitting)
        calls = [item for item in self.items(catalog, "function") if catalog[item][1] == wanted]
        if depth and calls and self.chance(40):
            called = self.one(calls)
            args = [self.expression(catalog, base, place, leaves, depth - 1) for base in catalog[called][0]]
            return ("call", called[1:], tuple(args))
        if wanted == "truth":
            base = self.one(["int", "text"])
            word = "alike" if base == "text" else self.one(["less", "equal"])
            both = [self.expression(catalog, base, place, leaves, max(depth - 1, 0)) for _ in range(2)]
            return (word, *both)
        if depth and self.chance(30):
            both = [self.expression(catalog, wanted, place, leaves, depth - 1) for _ in range(2)]
            return ("add" if wanted == "int" else "join", *both)
        return self.constant(wanted)

    def part(self, catalog, sources, types, most=2):
        """A part of a query over some of the sources with outputs of these types, or constants."""
        chosen = [(alias, self.one(sources)[1:]) for alias in "uvw"[:self.random.randrange(1, most + 1)]]
        sides = {}
        for alias, ref in chosen:
            for column, base in self.types_at(catalog, ref).items():
                sides[("of", alias, column)] = base
        conditions = []
        for side in sides:
            if self.chance(25) and len(conditions) < 6:
                fitting = [other for other in sides if sides[other] == sides[side]]
                conditions.append((side, self.constant(sides[side]) if self.chance(25) else self.one(fitting)))
        outputs = []
        for base in types:
            fitting = [side for side in sides if sides[side] == base]
            outputs.append(self.one(fitting) if fitting and self.chance(85) else self.constant(base))
        return (tuple(chosen), tuple(conditions), tuple(outputs))

    def types_at(self, catalog, ref):
        if ("view",) + ref in catalog:
            return {part: what for part, what in catalog.offers(("view",) + ref) if part is not None}
        return self.columns(catalog, ("table",) + ref)

    def query(self, catalog, sources, most_parts=2, most_sources=2):
        types = [self.one(["int", "text"]) for _ in range(self.random.randrange(1, 4))]
        return tuple(
            self.part(catalog, sources, types, most_sources) for _ in range(self.random.randrange(1, most_parts + 1))
        )

    def view(self, catalog):
        layer = self.random.randrange(1, 6)
        below = [item for item in self.items(catalog, "view") if catalog[item][0] < layer]
        sources = self.items(catalog, "table") + below + below
        if not sources:
            return None
        query = self.query(catalog, sources)
        return (layer, tuple(self.random.sample(sorted(self.names), len(query[0][2]))), query)

    def function(self, catalog):
        params = tuple(self.one(["int", "text"]) for _ in range(self.random.randrange(3)))
        result = self.one(["int", "text", "truth"])
        leaves = {("param", k): base for k, base in enumerate(params)}
        return (params, result, self.expression(catalog, result, "body", leaves))

    def in_table(self, catalog, kind, table):
        """The definition of a column, check or trigger."""
        plain = {("column", name): base for name, base in self.columns(catalog, table, kind == "column").items()}
        if kind == "column":
            domains = self.items(catalog, "domain")
            domain = self.one(domains) if domains and self.chance(40) else None
            base = catalog[domain][0] if domain else self.one(["int", "text"])
            rule = self.expression(catalog, base, "rule", plain) if self.chance(25) else None
            return (domain[1:] if domain else base, rule)
        truth = self.expression(catalog, "truth", "check", plain)
        return (truth,) if kind == "check" else (self.one(["insert", "update", "delete"]), truth)

    def definition(self, catalog, kind, address):
        """A definition of a kind for the item at an address, which may fit or not; None if there is none."""
        if kind in ("schema", "table"):
            return ()
        if kind == "domain":
            base = self.one(["int", "text"])
            check = self.expression(catalog, "truth", "domain", {("value",): base}) if self.chance(50) else None
            return (base, check)
        if kind == "sequence":
            owners = [item for item in self.items(catalog, "column") if item[1] == address[1]]
            return (self.one(owners)[2:] if owners and self.chance(50) else None,)
        if kind == "view":
            return self.view(catalog)
        if kind == "function":
            return self.function(catalog)
        if kind == "index":
            tables = [item for item in self.items(catalog, "table") if item[1] == address[1]]
            if not tables:
                return None
            table = self.one(tables)
            leaves = {("column", name): base for name, base in self.columns(catalog, table).items()}
            types = [self.one(["int", "text", "truth"]) for _ in range(self.random.randrange(1, 3))]
            return (table[2], tuple(self.expression(catalog, base, "index", leaves) for base in types))
        if kind == "default":
            column = ("column",) + address[1:]
            if column not in catalog:
                return None
            return (self.expression(catalog, dict(catalog.offers(column))[None], "default", {}),)
        return self.in_table(catalog, kind, ("table",) + address[1:3])

    def new_address(self, catalog, kind):
        """An address for a new item, or None."""
        if kind == "schema":
            return (kind, self.name())
        around = self.items(catalog, "schema" if kind in RELATIONS + ("domain", "function") else "table")
        if kind == "default":
            around = self.items(catalog, "column")
            return (kind,) + self.one(around)[1:] if around else None
        return (kind,) + self.one(around)[1:] + (self.name(),) if around else None

    def create(self, catalog, kinds):
        kind = self.one(kinds)
        address = self.new_address(catalog, kind)
        definition = None if address is None else self.definition(catalog, kind, address)
        return None if definition is None else ("create", kind, where_of(address), definition)

    def change(self, catalog):
        """A statement about an item that is there, or None."""
        if not len(catalog):
            return None
        address = self.one(catalog.addresses())
        kind, where = address[0], where_of(address)
        word = self.one(["drop", "replace", "replace", "rename", "move", "path"])
        if word == "path":
            return (word, tuple(self.name() for _ in range(self.random.randrange(5))))
        if word == "drop":
            return (word, kind, where, self.one(WAYS))
        if word == "rename":
            return None if kind == "default" else (word, kind, where, self.name())
        if word == "move":
            schema = self.one(self.items(catalog, "schema"))[1]
            return (word, kind, where, schema) if kind in ("domain", "sequence", "table", "view", "function") else None
        if kind in ("schema", "table", "index", "trigger"):
            return None
        definition = self.definition(catalog, kind, address)
        return None if definition is None else (word, kind, where, definition, self.one(WAYS))

    def catalog(self, many, kinds=None):
        """A Catalog with up to so many items."""
        weighted = (
            ["domain", "function", "table", "table", "sequence", "index", "check", "trigger", "default"] +
            ["column"] * 5 + ["view"] * 3
        )
        catalog = run(Catalog(), [("create", "schema", name, ()) for name in self.names[:2]] + [("path", ("b", "a"))])
        for _ in range(many):
            statement = self.create(catalog, weighted if kinds is None else kinds)
            if statement is not None:
                try:
                    catalog = done(catalog, statement)
                except CatalogError:
                    pass
        return catalog

    def data(self, catalog, most=3):
        """Data of a catalog with few different values."""
        data = {}
        for table in self.items(catalog, "table"):
            columns = self.columns(catalog, table)
            rows = []
            for _ in range(self.random.randrange(most + 1)):
                row = tuple(self.constant(columns[name])[1] for name in sorted(columns))
                if row not in rows:
                    rows.append(row)
            if rows or self.chance(50):
                data[table] = rows
        return data
