"""Merging two branches of a catalog.

Items are told by numbers here: the same one on each side for an item of the base, and for items that are one.
"""

from leancatalog.catalogs import catalog_of, identities_of, states_of
from leancatalog.errors import TooMany
from leancatalog.moving import retold
from leancatalog.states import is_offered
from leancatalog.words import parent_of, rank, space_of

MOST_ITEMS = 120

# The place of an item of a kind has a number only behind those of the items of lesser levels.
LEVELS = {
    "schema": 0,
    "domain": 1,
    "table": 1,
    "view": 1,
    "function": 1,
    "sequence": 2,
    "index": 2,
    "column": 2,
    "check": 2,
    "trigger": 2,
    "default": 3,
}


class Side:
    """The base or a branch, with the places and texts of its items by their numbers."""

    def __init__(self, catalog, numbers):
        self.states = states_of(catalog)
        self.identities = identities_of(catalog)
        self.numbers = numbers
        self.told = {numbers[address]: address for address in numbers}
        self.places = {number: place_of(self.states, self.told[number], numbers) for number in self.told}
        self.texts = texts_of(self.states, numbers)


def holder_of(states, address):
    """The address of the item in which another one lies by its place, None of a schema."""
    definition = states[address][0]
    if address[0] == "index":
        return ("table", address[1], definition[0])
    if address[0] == "sequence" and definition[0] is not None:
        return ("table", address[1], definition[0][0])
    return parent_of(address)


def place_of(states, address, numbers):
    """The place of an item: its kind, its own name, and the number of the item in which it lies."""
    holder = holder_of(states, address)
    name = None if address[0] == "default" else address[-1]
    return (address[0], name, None if holder is None else numbers[holder])


def stand_in(address, numbers):
    """The address of an item with numbers for all names, by which another item tells it in its text."""
    if len(address) == 4:
        table = numbers[("table",) + address[1:3]]
        return (address[0], table, table, numbers[address])
    return address[:1] + (numbers[address],) * (len(address) - 1)


def texts_of(states, numbers):
    """A dict from numbers to the texts of the items, tuples of a definition and needs."""
    new = {address: stand_in(address, numbers) for address in numbers}
    texts = {}
    for address in numbers:
        definition, needs, _ = retold(states, address, new)
        texts[numbers[address]] = (definition, [need for need in needs if need[0][0] != "schema"])
    return texts


def numbers_for(catalog, known, shared, apart):
    """A dict from the addresses of a branch to numbers.

    known has those of the items of the base, by identities; shared those of the other branch's new items, by places,
    which new items of this one in the same places get, too, unless their addresses are in apart.
    """
    states, identities = states_of(catalog), identities_of(catalog)
    numbers = {address: known[identities[address]] for address in states if identities[address] in known}
    new = sorted([address for address in states if address not in numbers], key=lambda address: LEVELS[address[0]])
    for at, address in enumerate(new):
        own = len(known) + len(shared) + at
        numbers[address] = own if address in apart else shared.get(place_of(states, address, numbers), own)
    return numbers


def unlike(one, other, shared):
    """The list of the numbers of the new items whose texts differ on two sides that both have them."""
    return [number for number in shared if number in other.texts and other.texts[number] != one.texts[number]]


def sides_of(base, one, other):
    """The three Sides, on which as many items as can be are one."""
    identities = identities_of(base)
    numbers = {address: number for number, address in enumerate(base.addresses())}
    known = {identities[address]: numbers[address] for address in numbers}
    first = Side(one, numbers_for(one, known, {}, {}))
    shared = {first.places[number]: number for number in first.places if number >= len(known)}
    apart = {}
    while True:
        second = Side(other, numbers_for(other, known, shared, apart))
        # What differs although all that could be one was taken for one is not one; without it, more may differ.
        differing = unlike(first, second, list(shared.values()))
        if not differing:
            return (Side(base, numbers), first, second)
        for number in differing:
            apart[second.told[number]] = True


def settled(versions):
    """What comes of these of the base and the two branches, or None if both have changed it otherwise."""
    base, one, other = versions
    if one == base:
        return other
    return one if other in (base, one) else None


def changed_otherwise(sides, number):
    """The clashes about what the branches have done with an item of the base."""
    address = sides[0].told[number]
    there = [side for side in sides if number in side.told]
    places = [side.places[number] for side in there]
    texts = [side.texts[number] for side in there]
    if len(there) == 3:
        return [(word, address) for word, told in (("place", places), ("text", texts)) if settled(told) is None]
    return [] if places == places[:1] * len(there) and texts == texts[:1] * len(there) else [("gone", address)]


class Sum:
    """The items of two branches together: their places, and the number of the side on which their text stands.

    An item that lies in one that is not in the sum has no address there, so none in where: what it needs is a clash.
    """

    def __init__(self, sides):
        base, one, other = sides
        self.sides = sides
        self.places = {number: base.places[number] for number in base.places}
        self.chosen = {}
        for number in base.told:
            if number in one.told and number in other.told:
                self.places[number] = settled([side.places[number] for side in sides])
                self.chosen[number] = 2 if one.texts[number] == base.texts[number] else 1
        for at in (1, 2):
            for number in sides[at].told:
                if number not in self.places:
                    self.places[number] = sides[at].places[number]
                    self.chosen[number] = at
        self.where = addresses_by({number: self.places[number] for number in self.chosen})


def addresses_by(places):
    """A dict from the numbers of items to their addresses by these places, without those that have none."""
    found = {number: address_by(places, number) for number in places}
    return {number: found[number] for number in found if found[number] is not None}


def address_by(places, number):
    """The address of an item by its place, None if it lies, at any depth, in one without a place."""
    if number not in places:
        return None
    kind, name, holder = places[number]
    if holder is None:
        return (kind, name)
    around = address_by(places, holder)
    if around is None:
        return None
    if kind == "default":
        return (kind,) + around[1:]
    # An index and a sequence lie in a schema, although a table may take them along.
    return (kind,) + (around[1:2] if kind in ("index", "sequence") else around[1:]) + (name,)


def name_clashes(total):
    """The clashes about items whose names stand twice."""
    names = {}
    for address in total.where.values():
        names.setdefault((space_of(address), address[-1]), []).append(address)
    return [("name",) + key for key in names if len(names[key]) > 1]


def side_of(total, number):
    """The Side on which the text of an item of the sum stands."""
    return total.sides[total.chosen[number]]


def state_on(side, number):
    """The state that an item has on a Side."""
    return side.states[side.told[number]]


def schema_of(total, number):
    """The number of the schema that an item of the sum needs by its place, or None."""
    kind, _, holder = total.places[number]
    if holder is None or total.places[holder][0] == "schema":
        return holder
    return total.places[holder][2] if kind in ("index", "sequence") and holder in total.chosen else None


def needs_by_number(total, number):
    """The needs of an item of the sum, tuples (number, need), where the address in a need does not count."""
    side = side_of(total, number)
    needs = [(side.numbers[need[0]], need) for need in state_on(side, number)[1] if need[0][0] != "schema"]
    schema = schema_of(total, number)
    return needs if schema is None else needs + [(schema, (None, None, None, "hard"))]


def is_met_by(total, needed, need):
    """Whether the sum meets a need of the item with the number needed."""
    return needed in total.chosen and is_offered(need, state_on(side_of(total, needed), needed)[2])


def address_told(sides, number):
    """The address by which a clash tells an item."""
    if number in sides[0].told:
        return sides[0].told[number]
    return min([side.told[number] for side in sides if number in side.told])


def need_clashes(total):
    """The clashes about needs that the sum does not meet."""
    return [
        ("need", address_told(total.sides, number), (address_told(total.sides, needed),) + need[1:])
        for number in total.chosen for needed, need in needs_by_number(total, number)
        if not is_met_by(total, needed, need)
    ]


def catalog_with(total, path):
    """The Catalog that the sum is."""
    states, identities = {}, {}
    for at in (1, 2):
        side = total.sides[at]
        new = {side.told[number]: total.where[number] for number in side.told if number in total.where}
        for address in new:
            identities.setdefault(new[address], side.identities[address])
            if total.chosen[side.numbers[address]] == at:
                states[new[address]] = retold(side.states, address, new)
    return catalog_of(states, identities, path)


def merged(base, one, other):
    """The Catalog that two branches of a base make together, or the clashes for which they make none."""
    sides = sides_of(base, one, other)
    path = settled([base.path, one.path, other.path])
    clashes = [clash for number in sides[0].told for clash in changed_otherwise(sides, number)]
    if path is None:
        clashes.append(("path",))
    if not clashes:
        total = Sum(sides)
        clashes = name_clashes(total) or need_clashes(total)
    if clashes:
        return ("clashes", sorted(list({clash: True for clash in clashes}), key=rank))
    if len(total.chosen) > MOST_ITEMS:
        raise TooMany(MOST_ITEMS)
    return ("merged", catalog_with(total, path))
