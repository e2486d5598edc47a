"""New addresses of items that are renamed or moved, and what tells them."""

from leancatalog.definitions import expressions_of, refs_of, table_around, with_refs
from leancatalog.exprs import columns_in, with_columns_in
from leancatalog.queries import fields_in, with_fields
from leancatalog.states import state_of
from leancatalog.words import parent_of


def lies_in(item, address):
    """Whether an item is the one at an address or lies in it, at any depth."""
    inner = item
    while inner is not None and inner != address:
        inner = parent_of(inner)
    return inner is not None


def renamed(addresses, address, new):
    """A dict from the old to the new addresses if an item gets a new one, with all that lies in it."""
    many = len(address)
    return {item: item[:1] + new[1:] + item[many:] for item in addresses if lies_in(item, address)}


def goes_along(states, item, table):
    """Whether an item is an index of a table, or a sequence that one of its columns owns."""
    if item[0] not in ("index", "sequence") or item[1] != table[1]:
        return False
    definition = states[item][0]
    if item[0] == "index":
        return definition[0] == table[2]
    return definition[0] is not None and definition[0][0] == table[2]


def coming(states, address):
    """The list of an item and, if it is a table, of what it takes along into another schema, but lies not in it."""
    if address[0] != "table":
        return [address]
    return [address] + [item for item in states if goes_along(states, item, address)]


def moved(addresses, along, schema):
    """A dict from the old to the new addresses if items come to a schema, with all that lies in them."""
    parts = [renamed(addresses, item, (item[0], schema, item[2])) for item in along]
    return {address: part[address] for part in parts for address in part}


def new_refs(kind, definition, new):
    """A dict from the tuples of refs_of to the new refs of the items that have new addresses."""
    found = {}
    for space, ref in refs_of(kind, definition):
        for sort in ("table", "view") if space == "relation" else (space,):
            item = (sort,) + ref
            if item in new:
                found[(space, ref)] = new[item][1:]
    return found


def with_new_columns(address, definition, new):
    """The definition of an item with the new names of the columns in its query or its expressions."""
    kind = address[0]
    if kind == "view":
        fields = {field: ("column",) + field[0] + field[1:] for field in fields_in(definition[2])}
        found = {field: new[fields[field]][3] for field in fields if fields[field] in new}
        return definition[:2] + (with_fields(definition[2], found),)
    table = ("column",) + table_around(address, definition)
    expressions = expressions_of(kind, definition)
    names = {name: table + (name,) for expression in expressions for name in columns_in(expression)}
    found = {name: new[names[name]][3] for name in names if names[name] in new}
    changed = tuple([with_columns_in(expression, found) for expression in expressions])
    if kind == "index":
        return (definition[0], changed)
    return definition[:-1] + changed if changed else definition


def with_new_table(address, definition, new):
    """The definition of an index with the new name of its table, or of a sequence with that of its owner."""
    kind, schema = address[:2]
    if kind == "index":
        table = ("table", schema, definition[0])
        return (new.get(table, table)[2],) + definition[1:]
    if kind == "sequence" and definition[0] is not None:
        owner = ("column", schema) + definition[0]
        return (new.get(owner, owner)[2:],)
    return definition


def retold_need(need, address, new):
    """A need of the item that is at an address now, with the new address of what it needs."""
    item = need[0]
    if item[0] == "schema":
        return (("schema", address[1]),) + need[1:]
    return (new.get(item, item),) + need[1:]


def retold(states, address, new):
    """The state of an item in which all is told by the new addresses, a dict from the old ones."""
    kind = address[0]
    definition, needs, _ = states[address]
    # What does not move and needs nothing that does tells no new address: refs and columns are needs, too.
    if address not in new and not any([need[0] in new for need in needs]):
        return states[address]
    now = new.get(address, address)
    refs = new_refs(kind, definition, new)
    changed = with_new_table(address, with_new_columns(address, definition, new), new)
    return state_of(kind, with_refs(kind, changed, refs), [retold_need(need, now, new) for need in needs])
