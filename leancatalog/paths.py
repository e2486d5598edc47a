"""What a name or a ref tells by the search path of a catalog."""

from leancatalog.words import is_name, namesakes


def found_in(catalog, space, schema, name):
    """The address of the item that has a name in a space of a schema, or None."""
    kind = "table" if space == "relation" else space
    return min([item for item in namesakes((kind, schema, name)) if item in catalog], default=None)


def schemas_on_path(catalog):
    """The schemas of the path that are there, each once, in its order."""
    return list({schema: True for schema in catalog.path if ("schema", schema) in catalog})


def lookup(catalog, space, name):
    """The address that a name tells in a space, or None."""
    if space == "schema":
        return (space, name) if (space, name) in catalog else None
    return turns(catalog, space, name)[1]


def turns(catalog, space, name):
    """The free schemas, the address that a name tells in a space, and the one that it would tell without that."""
    schemas = schemas_on_path(catalog)
    found = [found_in(catalog, space, schema, name) for schema in schemas]
    there = [address for address in found if address is not None] + [None, None]
    free = schemas[:found.index(there[0])] if there[0] is not None else schemas
    return (free, there[0], there[1])


def told(catalog, space, ref, kinds):
    """The address of an item of one of the kinds that a ref tells in a space, or None."""
    address = lookup(catalog, space, ref) if is_name(ref) else found_in(catalog, space, ref[0], ref[1])
    return address if address is not None and address[0] in kinds else None
