"""Statements: their form, and the full refs for the names in them."""

from leancatalog.definitions import is_definition, is_word, refs_of, with_refs
from leancatalog.errors import NoName
from leancatalog.paths import schemas_on_path, told
from leancatalog.words import KINDS, NAMES, RELATIONS, is_name, is_ref, is_tuple

WAYS = ("alone", "restrict", "cascade")
LONGEST_PATH = 8

WORDS = ("create", "drop", "replace", "rename", "move")

# The kinds of the items that a statement of a word may be about, if not all of them.
ABOUT = {
    "replace": ("domain", "sequence", "column", "default", "check", "view", "function"),
    "rename": ("schema", "domain", "sequence", "table", "view", "function", "index", "column", "check", "trigger"),
    "move": ("domain", "sequence", "table", "view", "function"),
}

# Where a ref of each sort is looked for, and the kinds of items that it may tell.
TOLD = {
    "domain": ("domain", ("domain",)),
    "function": ("function", ("function",)),
    "relation": ("relation", ("table", "view")),
    "sequence": ("relation", ("sequence",)),
}


def is_where(kind, thing):
    """Whether thing tells where an item of a kind is."""
    if kind == "schema":
        return is_name(thing)
    if NAMES[kind] == 2:
        return is_ref(thing)
    return is_tuple(thing, 2, 2) and is_ref(thing[0]) and is_name(thing[1])


def ends_well(word, kind, end):
    """Whether the end of a statement, behind its where, is as its word wants it."""
    if word in ("create", "replace") and not is_definition(kind, end[0]):
        return False
    if word == "create":
        return len(end) == 1
    if word == "replace":
        return len(end) == 2 and is_word(end[1], WAYS)
    return len(end) == 1 and (is_word(end[0], WAYS) if word == "drop" else is_name(end[0]))


def is_path(thing):
    """Whether thing is a search path."""
    return is_tuple(thing, 0, LONGEST_PATH) and all([is_name(name) for name in thing])


def is_statement(thing):
    """Whether thing, any value, is a statement by its form, whatever is there."""
    if not is_tuple(thing, 2, 5):
        return False
    if is_word(thing[0], ("path",)):
        return len(thing) == 2 and is_path(thing[1])
    if len(thing) < 4 or not is_word(thing[0], WORDS):
        return False
    word, kind, where = thing[:3]
    return is_word(kind, ABOUT.get(word, KINDS)) and is_where(kind, where) and ends_well(word, kind, thing[3:])


def full_ref(catalog, space, ref, kinds):
    """The tuple for a ref that has to tell an item of one of the kinds, unless it is a tuple already."""
    if not is_name(ref):
        return ref
    address = told(catalog, space, ref, kinds)
    if address is None:
        raise NoName(space, ref)
    return address[1:]


def new_ref(catalog, ref):
    """The tuple for the ref of an item that is created: in the first schema of the path, whatever it has there."""
    if not is_name(ref):
        return ref
    schemas = schemas_on_path(catalog)
    if not schemas:
        raise NoName("schema", ref)
    return (schemas[0], ref)


def full_where(catalog, word, kind, where):
    """The where of a statement with a tuple for its ref."""
    if kind == "schema":
        return where
    if NAMES[kind] == 3:
        return (full_ref(catalog, "relation", where[0], ("table",)), where[1])
    if word == "create":
        return new_ref(catalog, where)
    return full_ref(catalog, "relation" if kind in RELATIONS else kind, where, (kind,))


def full_definition(catalog, kind, definition):
    """The definition with tuples for all of its refs."""
    found = {}
    for sort, ref in refs_of(kind, definition):
        space, kinds = TOLD[sort]
        found[(sort, ref)] = full_ref(catalog, space, ref, kinds)
    return with_refs(kind, definition, found)


def written_out(catalog, statement):
    """The statement in which each ref is a tuple."""
    if statement[0] == "path":
        return statement
    word, kind, where = statement[:3]
    full = (word, kind, full_where(catalog, word, kind, where))
    if word in ("create", "replace"):
        return full + (full_definition(catalog, kind, statement[3]),) + statement[4:]
    return full + statement[3:]


def where_of(address):
    """The where, with a full ref, of a statement about the item at an address."""
    if address[0] == "schema":
        return address[1]
    return address[1:] if NAMES[address[0]] == 2 else (address[1:3], address[3])


def creation(address, definition):
    """The statement, with full refs, that creates an item with a full definition at an address."""
    return ("create", address[0], where_of(address), definition)
