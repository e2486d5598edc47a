"""Pairs of catalogs between which migrations lead, and what [81] and [82] say of them, word by word."""

from leancatalog.catalogs import Catalog
from leancatalog.changes import done, run
from leancatalog.dumps import dump
from leancatalog.errors import CatalogError, Ring
from tests.drawn import Drawing, where_of

CHOSEN = ("domain", "view", "function", "index", "default", "check", "trigger")
LASTING = ("schema", "table", "column", "sequence")
RELATIONS = ("table", "view", "sequence", "index")

KINDS = (
    ["domain"] * 2 + ["function"] * 4 + ["table"] + ["column"] * 3 + ["view"] * 3 + ["default"] * 2 +
    ["check", "index", "trigger", "sequence"]
)


def address_of(statement):
    """The address of the item of a statement with full refs."""
    _, kind, where = statement[:3]
    return (kind, where) if kind == "schema" else (kind, *where) if isinstance(where[0], str) else (kind, *where[0], where[1])


def redrawn(drawing, catalog, percent):
    """A Catalog with some of the items of another one, some of them with other definitions."""
    other = Catalog()
    for statement in dump(catalog):
        address = address_of(statement)
        if address[0] in ("sequence", "table") and drawing.chance(12):
            statement = ("create", "sequence" if address[0] == "table" else "table") + statement[2:3]
            statement += ((None,) if address[0] == "table" else (),)
        elif address[0] != "schema" and drawing.chance(12):
            continue
        if statement[1] == address[0] and drawing.chance(percent):
            definition = drawing.definition(other, address[0], address)
            statement = statement if definition is None else statement[:3] + (definition,)
        try:
            other = done(other, statement)
        except CatalogError:
            pass
    return other


def drawn_pair(seed, most=14, names="abc"):
    """Two Catalogs of few items that have much in common, or None."""
    drawing = Drawing(seed, names)
    one = drawing.catalog(drawing.random.randrange(most - 4, 2 * most), KINDS)
    try:
        other = redrawn(drawing, one, drawing.one([30, 50, 70]))
    except (Ring, IndexError, KeyError):
        return None
    if len(one) > most or len(other) > most:
        return None
    return drawing, *((one, other) if drawing.chance(50) else (other, one))


def state(catalog, address):
    return catalog[address], catalog.needs(address)


def is_alike(one, other, address):
    return state(one, address) == state(other, address)


def choices_told(one, other):
    both = [address for address in one.addresses() if address in other and address[0] in CHOSEN]
    return [item for item in both if item[0] in ("index", "trigger") and not is_alike(one, other, item)], both


def cost_told(one, other, choice):
    return sum(2 if is_alike(one, other, address) else 1 for address in choice)


def events_told(one, other, choice):
    events = {("drop", item) for item in one.addresses() if item not in other or item in choice}
    events |= {("create", item) for item in other.addresses() if item not in one or item in choice}
    for item in one.addresses():
        if item in other and item not in choice:
            events.add(("stay" if is_alike(one, other, item) else "replace", item))
    return events


def meets(catalog, need):
    """Whether the item that a need tells meets it in a catalog."""
    address, part, wanted, _ = need
    offers = dict(catalog.offers(address))
    if wanted is None:
        return True
    if isinstance(wanted, tuple) and wanted[0] == "below":
        return offers[None] < wanted[1]
    return offers.get(part) == wanted


def key(thing):
    """The key by which [40] orders needs."""
    if thing is None:
        return (0,)
    return (3, [key(part) for part in thing]) if isinstance(thing, tuple) else (1 if isinstance(thing, int) else 2, thing)


def links_told(one, other, choice):
    events = events_told(one, other, choice)

    def event(words, item):
        return [(word, item) for word in words if (word, item) in events][0]

    links = []
    for x in one.addresses():
        for need in one.needs(x):
            y = need[0]
            if y == x:
                continue
            end = event(["drop", "replace", "stay"], x)
            if ("drop", y) in events:
                links.append((end, ("drop", y), ("old", x, need)))
            elif ("replace", y) in events and not meets(other, need):
                links.append((end, ("replace", y), ("old", x, need)))
    for x in other.addresses():
        for need in other.needs(x):
            y = need[0]
            if y == x:
                continue
            beginning = event(["create", "replace", "stay"], x)
            if ("create", y) in events:
                links.append((("create", y), beginning, ("new", x, need)))
            elif ("replace", y) in events and not meets(one, need):
                links.append((("replace", y), beginning, ("new", x, need)))
    links += [(("drop", x), ("create", x), ("again", x)) for x in choice]
    for x in one.addresses():
        for y in other.addresses():
            if x not in other and y not in one and x[0] in RELATIONS and y[0] in RELATIONS and x[1:] == y[1:]:
                links.append((("drop", x), ("create", y), ("name", x, y)))
    return sorted(links, key=lambda link: (link[:2], key(link[2])))


def ring_told(links):
    """The ring by the words of [82], by looking for rings of two events, of three, and so on."""
    steps = {}
    for link in links:
        steps.setdefault(link[0], {}).setdefault(link[1], link)
    ways = [[event] for event in steps]
    while ways:
        ways = [way + [later] for way in ways for later in sorted(steps.get(way[-1], {})) if later >= way[0] and later not in way[1:]]
        rings = [way[:-1] for way in ways if way[-1] == way[0]]
        if rings:
            events = min(rings)
            return [steps[event][later] for event, later in zip(events, events[1:] + events[:1])]
    return None


def fewest(one, other, most=40000):
    """The fewest statements of a migration, None if there is none, -1 if looking for them takes too long.

    All lists of statements that [81] lets stand are run, but of two with the same statements that lead to the same
    states only one is gone on with.
    """
    moves = [("drop", item, ("alone",)) for item in one.addresses() if item not in other or item[0] not in LASTING]
    moves += [("create", item, (other[item],)) for item in other.addresses()]
    replaced = ("domain", "sequence", "column", "default", "check", "view", "function")
    moves += [("replace", item, (other[item], "alone")) for item in other.addresses() if item[0] in replaced]
    unpathed = done(other, ("path", one.path))
    level, many, tried = {frozenset(): [one]}, 0, 0
    while level:
        if any(catalog == unpathed for found in level.values() for catalog in found):
            return many
        further = {}
        for used, found in level.items():
            for word, item, end in moves:
                words = {told for told, about in used if about == item}
                if words not in ([set(), {"drop"}] if word == "create" else [set()]):
                    continue
                for catalog in found:
                    tried += 1
                    try:
                        after = done(catalog, (word, item[0], where_of(item), *end))
                    except CatalogError:
                        continue
                    known = further.setdefault(used | {(word, item)}, [])
                    if after not in known:
                        known.append(after)
            if tried > most:
                return -1
        level, many = further, many + 1
    return None


# Statements of a schema app with a table t of the columns a and b, both int.
BASE = [
    ("create", "schema", "app", ()), ("path", ("app",)), ("create", "table", "t", ()),
    ("create", "column", ("t", "a"), ("int", None)), ("create", "column", ("t", "b"), ("int", None)),
]


def catalog_of(*statements):
    return run(Catalog(), BASE + list(statements))


def column(name, base="int", rule=None):
    return ("replace", "column", ("t", name), (base, rule), "cascade")


def view(name, layer, source, *columns):
    """A view of columns of one source under their own names."""
    outputs = tuple(("of", "o", column) for column in columns)
    return ("create", "view", name, (layer, columns, ((((("o", source),), (), outputs)),)))


def function(name, params, *called, result="int"):
    """A function that calls others with constants, given as tuples (name, params)."""
    body = ("int", 0)
    for other, bases in called:
        body = ("add", body, ("call", ("app", other), tuple((base, 1 if base == "int" else "x") for base in bases)))
    return ("create", "function", name, (tuple(params), result, body))


def tower(many, base):
    """Columns of a base type, a view on each, and a view on each of these that names another column of it, too."""
    statements = [("create", "schema", "app", ()), ("path", ("app",)), ("create", "table", "t", ())]
    for letter in "abcdefghij"[:many]:
        statements += [
            ("create", "column", ("t", letter), (base, None)), ("create", "column", ("t", letter + "x"), ("int", None)),
            view("v" + letter, 1, "t", letter, letter + "x"), view("w" + letter, 2, "v" + letter, letter + "x"),
        ]
    return run(Catalog(), statements)


def caught_in_rings(many, base):
    """Pairs of functions of which one calls the other one, whose parameter has a base type."""
    statements = [("create", "schema", "app", ()), ("path", ("app",))]
    for letter in "abcdefghijklmnopqrstuvwxyz"[:many]:
        statements += [function("f" + letter, (base,)), function("g" + letter, (), ("f" + letter, (base,)))]
    return run(Catalog(), statements)
