"""Migrations from one catalog to another one, with the fewest statements, and trees that show that these are needed."""

from leancatalog.catalogs import states_of
from leancatalog.changes import done
from leancatalog.errors import CatalogError, TooMany
from leancatalog.events import Pair, least_ring_in, whys_of
from leancatalog.graphs import least_order, turned
from leancatalog.statements import ABOUT, creation, is_statement, where_of
from leancatalog.words import is_address, is_same, is_tuple

# Items of these kinds are never dropped if they are in both catalogs.
LASTING = ("schema", "table", "column", "sequence")

# What may be told of one address, by the words of its statements in their order.
TURNS = (("drop",), ("create",), ("drop", "create"), ("replace",))


def cost_of(pair, choice):
    """What a choice costs: the statements that it has more than the least that could do."""
    return sum([2 if pair.alike[address] else 1 for address in choice])


def further(pair, choice, events):
    """The ascending list of the addresses of events that are not in a choice, but may be in one."""
    named = {address: True for _, address in events}
    return [address for address in pair.free if address in named and address not in choice]


def with_one(choice, address):
    """The choice with one address more."""
    return sorted(choice + [address])


def statement_for(other, event):
    """The statement that an event is; other is the catalog to which it leads."""
    word, address = event
    if word == "drop":
        return ("drop", address[0], where_of(address), "alone")
    made = creation(address, other[address])
    return made if word == "create" else ("replace",) + made[1:] + ("alone",)


def order(one, other, choice):
    """The statements of the order in which each event is the least that can stand there, or None."""
    whys = whys_of(Pair(one, other), choice)
    events = least_order(turned({event: list(whys[event]) for event in whys}))
    if len(events) < len(whys):
        return None
    return [statement_for(other, event) for event in events if event[0] != "stay"]


class Search:
    """A search from the least choice to greater ones, for one cost after another."""

    def __init__(self, one, other, limit):
        self._pair = Pair(one, other)
        self._limit = limit
        self._rings = {}
        self._many = 0
        self._cut = False
        self._found = None

    def least_cost(self):
        """What the least choice costs."""
        return cost_of(self._pair, self._pair.least)

    def at_cost(self, cost):
        """The first choice without a ring or None, the tree, and whether a choice that costs more was left out."""
        self._many = 0
        self._cut = False
        tree = self._tree(self._pair.least, cost)
        return (self._found, tree, self._cut)

    def _ring_of(self, choice):
        """The ring of a choice, found only once however often the search comes to it."""
        key = tuple(choice)
        if key not in self._rings:
            self._rings[key] = least_ring_in(whys_of(self._pair, choice))
        return self._rings[key]

    def _tree(self, choice, cost):
        """The tree for a choice and a cost, as far as no choice without a ring is found."""
        if cost_of(self._pair, choice) > cost:
            self._cut = True
            return None
        links = self._ring_of(choice)
        if links is None:
            self._found = choice
            return None
        self._many += 1
        if self._many > self._limit:
            raise TooMany(self._limit)
        parts = []
        for address in further(self._pair, choice, [link[0] for link in links]):
            parts.append((address, self._tree(with_one(choice, address), cost)))
            if self._found is not None:
                return None
        return (list(links), parts)


def migrate(one, other, *, limit=60):
    """A migration with the fewest statements, and the tree that shows that there is none with fewer, or none at all."""
    search = Search(one, other, limit)
    cost = search.least_cost()
    found, tree, cut = search.at_cost(cost)
    before = None
    while found is None and cut:
        cost += 1
        before = tree
        found, tree, cut = search.at_cost(cost)
    if found is None:
        return ("none", tree)
    return ("order", order(one, other, found), found, before)


def is_event(thing, whys):
    """Whether thing, any value, is one of the events."""
    return is_tuple(thing, 2, 2) and isinstance(thing[0], str) and is_address(thing[1]) and thing in whys


def is_link(thing, whys):
    """Whether thing, any value, is a link between two of the events."""
    if not is_tuple(thing, 3, 3) or not is_event(thing[0], whys) or not is_event(thing[1], whys):
        return False
    return any([is_same(thing[2], why) for why in whys[thing[0]].get(thing[1], [])])


def is_ring_in(thing, whys):
    """Whether thing, any value, is a ring of links."""
    if not isinstance(thing, list) or not thing or not all([is_link(link, whys) for link in thing]):
        return False
    if len({link[0] for link in thing}) < len(thing):
        return False
    return all([link[1] == after[0] for link, after in zip(thing, thing[1:] + thing[:1])])


def is_tree_in(pair, choice, cost, thing):
    """The same as below for a pair of catalogs."""
    if cost is not None and cost_of(pair, choice) > cost:
        return thing is None
    if not is_tuple(thing, 2, 2) or not isinstance(thing[1], list):
        return False
    if not is_ring_in(thing[0], whys_of(pair, choice)):
        return False
    wanted = further(pair, choice, [link[0] for link in thing[0]])
    if len(thing[1]) != len(wanted):
        return False
    for part, address in zip(thing[1], wanted):
        if not is_tuple(part, 2, 2) or not is_same(part[0], address):
            return False
        if not is_tree_in(pair, with_one(choice, address), cost, part[1]):
            return False
    return True


def is_tree(one, other, choice, cost, thing):
    """Whether thing, any value, is a tree for a choice and a cost."""
    return is_tree_in(Pair(one, other), choice, cost, thing)


def allowed(one, other):
    """The list of the tuples (word, address, statement) for all statements that may stand in a migration."""
    gone = [address for address in one.addresses() if address not in other or address[0] not in LASTING]
    changed = [address for address in other.addresses() if address[0] in ABOUT["replace"]]
    events = [("drop", address) for address in gone]
    events.extend([("create", address) for address in other.addresses()])
    events.extend([("replace", address) for address in changed])
    return [event + (statement_for(other, event),) for event in events]


def leads_to(one, other, statements):
    """Whether no statement of a list is refused from one on, and behind them the items have the states of other."""
    now = one
    for statement in statements:
        try:
            now = done(now, statement)
        except CatalogError:
            return False
    return states_of(now) == states_of(other)


def is_migration(one, other, thing):
    """Whether thing, any value, is a migration from one to other."""
    if not isinstance(thing, list) or len(thing) > len(one) + len(other):
        return False
    if not all([is_statement(statement) for statement in thing]):
        return False
    turns = {}
    for word, address in told_by(thing, allowed(one, other)):
        turns.setdefault(address, []).append(word)
    many = sum([len(turns[address]) for address in turns])
    if many < len(thing) or not all([tuple(turns[address]) in TURNS for address in turns]):
        return False
    return leads_to(one, other, thing)


def told_by(statements, rows):
    """The tuples (word, address) for those of the statements that stand in rows, as above."""
    return [(word, address) for told in statements for word, address, statement in rows if statement == told]
