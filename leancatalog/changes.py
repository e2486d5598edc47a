"""What statements do: the Catalog after them, and what they change."""

from leancatalog.catalogs import Catalog, Identity, catalog_of, identities_of, states_of
from leancatalog.errors import CatalogError, Hangs, Needs, NoItem, NoName, Stopped, Taken, TooMany, Wrong
from leancatalog.falls import blocked, falls
from leancatalog.moving import coming, moved, renamed, retold
from leancatalog.reading import state_in
from leancatalog.replacing import replaced
from leancatalog.statements import is_statement, written_out
from leancatalog.words import namesakes

MOST_ITEMS = 120
MOST_STATEMENTS = 200

# What a statement does is a tuple: the Catalog after it, what falls, what is made anew, what gets a new address.


def address_in(kind, where):
    """The address of the item of a statement with full refs."""
    if kind == "schema":
        return (kind, where)
    if isinstance(where[0], tuple):
        return (kind,) + where[0] + where[1:]
    return (kind,) + where


def must_be_free(catalog, addresses):
    """Refuses addresses whose names are taken in their spaces."""
    standing = [item for address in addresses for item in namesakes(address) if item in catalog]
    if standing:
        raise Taken(min(standing))


def after_create(catalog, address, definition):
    """What creating an item does."""
    must_be_free(catalog, [address])
    if len(catalog) >= MOST_ITEMS:
        raise TooMany(MOST_ITEMS)
    states, identities = states_of(catalog), identities_of(catalog)
    states[address] = state_in(states, address, definition)
    identities[address] = Identity()
    return (catalog_of(states, identities, catalog.path), [], [], [])


def kept(catalog, states, fallen):
    """The Catalog of the items of another one that now have these states, but those that fall."""
    left = {address: states[address] for address in states if address not in fallen}
    return catalog_of(left, identities_of(catalog), catalog.path)


def after_drop(catalog, address, way):
    """What dropping an item does."""
    barring = blocked(catalog, address, way)
    if barring is not None:
        raise Hangs(address, barring)
    fallen = falls(catalog, address)
    return (kept(catalog, states_of(catalog), fallen), fallen, [], [])


def after_replace(catalog, address, definition, way):
    """What replacing an item does."""
    states, fallen, anew = replaced(catalog, address, definition)
    needed = [need[0] for need in states[address][1] if need[0] in fallen]
    if needed:
        raise Needs(address, min(needed))
    barring = [] if way == "cascade" else fallen + (anew if way == "alone" else [])
    if barring:
        raise Hangs(address, min(barring))
    return (kept(catalog, states, fallen), fallen, anew, [])


def with_new_addresses(catalog, new):
    """What giving items new addresses does, a dict from the old ones."""
    states, identities = states_of(catalog), identities_of(catalog)
    now = {new.get(item, item): retold(states, item, new) for item in states}
    same = {new.get(item, item): identities[item] for item in identities}
    return (catalog_of(now, same, catalog.path), [], [], sorted(list(new.items())))


def after_rename(catalog, address, name):
    """What renaming an item does."""
    new = address[:-1] + (name,)
    must_be_free(catalog, [new])
    return with_new_addresses(catalog, renamed(catalog.addresses(), address, new))


def after_move(catalog, address, schema):
    """What moving an item to a schema does."""
    if ("schema", schema) not in catalog:
        raise NoName("schema", schema)
    states = states_of(catalog)
    if address[0] == "sequence" and states[address][0][0] is not None:
        raise Needs(address, ("column", address[1]) + states[address][0][0])
    along = coming(states, address)
    must_be_free(catalog, [(item[0], schema, item[2]) for item in along])
    return with_new_addresses(catalog, moved(states, along, schema))


def after_path(catalog, names):
    """What setting the path does."""
    return (catalog_of(states_of(catalog), identities_of(catalog), names), [], [], [])


# Replacing takes one argument more.
DEEDS = {"create": after_create, "drop": after_drop, "rename": after_rename, "move": after_move}


def outcome(catalog, statement):
    """What a statement does, both as they have to be."""
    full = written_out(catalog, statement)
    if full[0] == "path":
        return after_path(catalog, full[1])
    word, kind, where = full[:3]
    address = address_in(kind, where)
    if word != "create" and address not in catalog:
        raise NoItem(address)
    if word == "replace":
        return after_replace(catalog, address, full[3], full[4])
    deed = DEEDS[word]
    return deed(catalog, address, full[3])


def must_be_right(catalog, statement):
    """Refuses what is no Catalog, then what is no statement."""
    if not isinstance(catalog, Catalog):
        raise Wrong(0)
    if not is_statement(statement):
        raise Wrong(1)


def done(catalog, statement):
    """The Catalog after a statement."""
    must_be_right(catalog, statement)
    return outcome(catalog, statement)[0]


def effects(catalog, statement):
    """The ascending lists of what falls, of what is made anew, and of the tuples (old, new) of addresses."""
    must_be_right(catalog, statement)
    return outcome(catalog, statement)[1:]


def run(catalog, statements):
    """The Catalog after all statements of a list."""
    if not isinstance(catalog, Catalog):
        raise Wrong(0)
    if not isinstance(statements, list) or len(statements) > MOST_STATEMENTS:
        raise Wrong(1)
    now = catalog
    for at, statement in enumerate(statements):
        try:
            now = done(now, statement)
        except CatalogError as why:
            raise Stopped(at) from why
    return now
