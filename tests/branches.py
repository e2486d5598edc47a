"""Branches of catalogs whose items the tests follow themselves, and their merge by the words of [100]."""

import itertools

from leancatalog.changes import done, effects
from leancatalog.errors import CatalogError
from tests.drawn import RELATIONS

FRESH = itertools.count()


class Branch:
    """A Catalog, and a token for each of its items that stays as long as the item does."""

    def __init__(self, catalog, tokens):
        self.catalog = catalog
        self.tokens = tokens

    def after(self, statement):
        fallen, _, moved = effects(self.catalog, statement)
        new, later = dict(moved), done(self.catalog, statement)
        tokens = {new.get(item, item): token for item, token in self.tokens.items() if item not in fallen}
        for item in later.addresses():
            tokens.setdefault(item, next(FRESH))
        return Branch(later, tokens)

    def run(self, *statements):
        branch = self
        for statement in statements:
            branch = branch.after(statement)
        return branch

    def tried(self, statements):
        """The Branch after those of the statements that are not refused."""
        branch = self
        for statement in statements:
            try:
                branch = branch.after(statement)
            except CatalogError:
                pass
        return branch


def branch_of(catalog):
    return Branch(catalog, {item: next(FRESH) for item in catalog.addresses()})


class Item:
    """What stands in a text for an item of a catalog."""

    def __init__(self, address):
        self.address = address


def marked(expression, table):
    """An expression with an Item for each name and ref of one."""
    if expression is None:
        return None
    if expression[0] == "column":
        return ("column", Item(("column",) + table + expression[1:]))
    if expression[0] == "next":
        return ("next", Item(("sequence",) + expression[1]))
    if expression[0] == "call":
        return ("call", Item(("function",) + expression[1]), tuple(marked(part, table) for part in expression[2]))
    return tuple(marked(part, table) if isinstance(part, tuple) else part for part in expression)


def marked_query(catalog, query):
    parts = []
    for sources, conditions, outputs in query:
        told = {alias: (("view",) if ("view",) + ref in catalog else ("table",)) + ref for alias, ref in sources}

        def side(one):
            if one[0] != "of" or told[one[1]][0] == "view":
                return one
            return one[:2] + (Item(("column",) + told[one[1]][1:] + one[2:]),)

        parts.append((
            tuple((alias, Item(told[alias])) for alias, _ in sources),
            tuple((side(one), side(other)) for one, other in conditions), tuple(side(one) for one in outputs),
        ))
    return tuple(parts)


def marked_definition(catalog, address):
    kind, definition = address[0], catalog[address]
    if kind in ("schema", "table"):
        return ()
    if kind == "sequence":
        return (definition[0] and Item(("column", address[1]) + definition[0]),)
    if kind == "view":
        return definition[:2] + (marked_query(catalog, definition[2]),)
    if kind == "index":
        table = (address[1], definition[0])
        return (Item(("table",) + table), tuple(marked(part, table) for part in definition[1]))
    if kind == "column" and isinstance(definition[0], tuple):
        return (Item(("domain",) + definition[0]), marked(definition[1], address[1:3]))
    return definition[:-1] + (marked(definition[-1], address[1:3]),)


def marked_needs(catalog, address):
    return [(Item(need[0]),) + need[1:] for need in catalog.needs(address) if need[0][0] != "schema"]


def holder(catalog, address):
    """The address of the item in which an item lies by its place."""
    kind, definition = address[0], catalog[address]
    if kind == "schema":
        return None
    if kind == "index":
        return ("table", address[1], definition[0])
    if kind == "sequence" and definition[0]:
        return ("table", address[1], definition[0][0])
    if kind == "default":
        return ("column",) + address[1:]
    return ("table",) + address[1:3] if len(address) == 4 else ("schema", address[1])


class Merge:
    """The merge of two branches: ("clashes", list), or ("merged", a dict of states, path)."""

    def __init__(self, base, one, other):
        self.sides = {"base": base, "one": one, "other": other}
        self.known = {token: item for item, token in base.tokens.items()}
        self.pairs = self.greatest()
        self.told = self.outcome()

    def is_new(self, side, address):
        return self.sides[side].tokens[address] not in self.known

    def greatest(self):
        """The pairs of new items that are one: of all pairs those that stay when unlike ones are taken out."""
        news = [[item for item in self.sides[side].tokens if self.is_new(side, item)] for side in ("one", "other")]
        self.pairs = {pair for pair in itertools.product(*news) if pair[0][0] == pair[1][0]}
        while True:
            unlike = {pair for pair in self.pairs if not self.alike("one", pair[0], "other", pair[1])}
            if not unlike:
                return self.pairs
            self.pairs -= unlike

    def same(self, side, item, other_side, other):
        if None in (item, other):
            return item == other
        one, two = self.sides[side].tokens[item], self.sides[other_side].tokens[other]
        if one in self.known or two in self.known or side == other_side:
            return one == two
        return ((item, other) if side == "one" else (other, item)) in self.pairs

    def equal(self, side, thing, other_side, other):
        """Whether two values are equal, items that are the same among them."""
        if isinstance(thing, Item) or isinstance(other, Item):
            return isinstance(thing, Item) and isinstance(other, Item) and self.same(side, thing.address, other_side, other.address)
        if isinstance(thing, tuple):
            return isinstance(other, tuple) and len(thing) == len(other) and all(
                self.equal(side, part, other_side, more) for part, more in zip(thing, other)
            )
        return thing == other

    def same_place(self, side, item, other_side, other):
        one, two = self.sides[side].catalog, self.sides[other_side].catalog
        names = (item[0] == "default" or item[-1] == other[-1]) and item[0] == other[0]
        return names and self.same(side, holder(one, item), other_side, holder(two, other))

    def same_text(self, side, item, other_side, other):
        one, two = self.sides[side].catalog, self.sides[other_side].catalog
        if not self.equal(side, marked_definition(one, item), other_side, marked_definition(two, other)):
            return False
        needs, more = marked_needs(one, item), marked_needs(two, other)
        return len(needs) == len(more) and all(
            any(self.equal(side, need, other_side, found) for found in more) for need in needs
        ) and all(any(self.equal(side, need, other_side, found) for need in needs) for found in more)

    def alike(self, side, item, other_side, other):
        return self.same_place(side, item, other_side, other) and self.same_text(side, item, other_side, other)

    def at(self, side, token):
        found = [item for item, told in self.sides[side].tokens.items() if told == token]
        return found[0] if found else None

    def three_ways(self, same, item, one, other):
        """The side whose version stands in the sum, or None if both are others."""
        if same("base", item, "one", one):
            return "other"
        return "one" if same("base", item, "other", other) or same("one", one, "other", other) else None

    def outcome(self):
        clashes, self.places, self.texts = set(), {}, {}
        for token, item in self.known.items():
            found = {side: self.at(side, token) for side in ("one", "other")}
            there = [side for side in found if found[side] is not None]
            if len(there) == 1 and not self.alike("base", item, there[0], found[there[0]]):
                clashes.add(("gone", item))
            if len(there) == 2:
                self.places[token] = self.three_ways(self.same_place, item, found["one"], found["other"])
                self.texts[token] = self.three_ways(self.same_text, item, found["one"], found["other"])
                clashes |= {("place", item)} if self.places[token] is None else set()
                clashes |= {("text", item)} if self.texts[token] is None else set()
        paths = [self.sides[side].catalog.path for side in ("base", "one", "other")]
        if paths[0] not in paths[1:] and paths[1] != paths[2]:
            clashes.add(("path",))
        if clashes:
            return ("clashes", clashes)
        self.path = paths[2] if paths[1] == paths[0] else paths[1]
        self.add_new()
        return self.summed()

    def add_new(self):
        matched = {other: one for one, other in self.pairs}
        self.where = {}
        for side in ("one", "other"):
            for item, token in self.sides[side].tokens.items():
                if token in self.known:
                    continue
                node = (side, token) if side == "one" or item not in matched else ("one", self.sides["one"].tokens[matched[item]])
                self.where.setdefault(node, []).append(item)
                self.places.setdefault(node, side)
                self.texts.setdefault(node, side)

    def node(self, side, address):
        """The token of an item of the base, or the side and the token of a new one."""
        token = self.sides[side].tokens[address]
        if token in self.known:
            return token
        ones = [one for one, other in self.pairs if other == address] if side == "other" else []
        return ("one", self.sides["one"].tokens[ones[0]]) if ones else (side, token)

    def item_on(self, side, node):
        return self.at(side, node[1] if isinstance(node, tuple) else node)

    def around(self, node):
        """The kind, the name and the node around an item by its place."""
        side = self.places.get(node, "base")
        item = self.item_on(side, node)
        around = holder(self.sides[side].catalog, item)
        return item[0], item[-1], None if around is None else self.node(side, around)

    def address(self, node):
        """The address of an item in the sum by its place, None if it lies in one that is not in the sum."""
        kind, name, around = self.around(node)
        if around is None:
            return (kind, name)
        inside = self.address(around) if around in self.texts else None
        if inside is None:
            return None
        if kind == "default":
            return (kind,) + inside[1:]
        return (kind, inside[1], name) if kind in RELATIONS + ("domain", "function") else (kind,) + inside[1:] + (name,)

    def told_address(self, node):
        return min(self.where[node]) if isinstance(node, tuple) else self.known[node]

    def offers(self, node):
        side = self.texts[node]
        return dict(self.sides[side].catalog.offers(self.item_on(side, node)))

    def needs(self, node):
        """The needs of an item of the sum, with nodes for addresses."""
        side = self.texts[node]
        catalog, item = self.sides[side].catalog, self.item_on(side, node)
        needs = [(self.node(side, need[0]),) + need[1:] for need in catalog.needs(item) if need[0][0] != "schema"]
        kind, _, around = self.around(node)
        if around is not None and kind in RELATIONS + ("domain", "function"):
            if self.around(around)[0] == "schema":
                needs.append((around, None, None, "hard"))
            elif around in self.texts:
                needs.append((self.around(around)[2], None, None, "hard"))
        return needs

    def meets(self, need):
        node, part, wanted, _ = need
        if node not in self.texts:
            return False
        if wanted is None:
            return True
        if isinstance(wanted, tuple) and wanted[0] == "below":
            return self.offers(node)[None] < wanted[1]
        return self.offers(node).get(part) == wanted

    def summed(self):
        names = {}
        for node in self.texts:
            address = self.address(node)
            if address is None:
                continue
            space = ("relation", address[1]) if address[0] in RELATIONS else address[:-1]
            names.setdefault((space, address[-1]), []).append(node)
        clashes = {("name",) + key for key in names if len(names[key]) > 1}
        if not clashes:
            clashes = {
                ("need", self.told_address(node), (self.told_address(need[0]),) + need[1:])
                for node in self.texts for need in self.needs(node) if not self.meets(need)
            }
        if clashes:
            return ("clashes", clashes)
        states = {}
        for node, side in self.texts.items():
            needs = {(self.address(need[0]),) + need[1:] for need in self.needs(node)}
            definition = self.filled(side, marked_definition(self.sides[side].catalog, self.item_on(side, node)))
            states[self.address(node)] = (definition, needs)
        return ("merged", states, self.path)

    def filled(self, side, thing):
        """A value of a definition with the names and refs that the items have in the sum."""
        if isinstance(thing, Item):
            return self.address(self.node(side, thing.address))[1:]
        if not isinstance(thing, tuple):
            return thing
        if len(thing) == 2 and thing[0] == "column" and isinstance(thing[1], Item):
            return ("column", self.filled(side, thing[1])[-1])
        if len(thing) == 3 and thing[0] == "of" and isinstance(thing[2], Item):
            return thing[:2] + self.filled(side, thing[2])[-1:]
        if thing and isinstance(thing[0], Item) and thing[0].address[0] == "table":
            return self.filled(side, thing[0])[-1:] + self.filled(side, thing[1:])
        if thing and isinstance(thing[0], Item) and thing[0].address[0] == "column":
            return (self.filled(side, thing[0])[-2:],)
        return tuple(self.filled(side, part) for part in thing)
