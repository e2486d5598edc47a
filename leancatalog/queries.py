"""Queries: their form, and the refs of their sources."""

from leancatalog.exprs import is_constant
from leancatalog.words import is_name, is_ref, is_tuple


def is_source(thing):
    """Whether thing is an alias with a ref."""
    return is_tuple(thing, 2, 2) and is_name(thing[0]) and is_ref(thing[1])


def is_field(thing, aliases):
    """Whether thing is a side that tells a column of one of the aliases."""
    if not is_tuple(thing, 3, 3) or not all([is_name(part) for part in thing]):
        return False
    return thing[0] == "of" and thing[1] in aliases


def is_side(thing, aliases):
    """Whether thing is a side of a query's part."""
    return is_field(thing, aliases) or is_constant(thing)


def is_condition(thing, aliases):
    """Whether thing is a condition of a query's part."""
    return is_tuple(thing, 2, 2) and is_field(thing[0], aliases) and is_side(thing[1], aliases)


def is_part(thing):
    """Whether thing is a part of a query."""
    if not is_tuple(thing, 3, 3):
        return False
    sources, conditions, outputs = thing
    if not is_tuple(sources, 1, 3) or not all([is_source(source) for source in sources]):
        return False
    aliases = [source[0] for source in sources]
    if len(set(aliases)) < len(aliases):
        return False
    if not is_tuple(conditions, 0, 6) or not all([is_condition(condition, aliases) for condition in conditions]):
        return False
    return is_tuple(outputs, 1, 6) and all([is_side(output, aliases) for output in outputs])


def is_query(thing):
    """Whether thing, any value, is a query by its form: what is there, and types, do not matter."""
    if not is_tuple(thing, 1, 4) or not all([is_part(part) for part in thing]):
        return False
    return len({len(part[2]) for part in thing}) == 1


def sources_in(query):
    """The refs of a query's sources, each once, in the order in which they first stand in it."""
    return list({source[1]: True for part in query for source in part[0]})


def with_sources(query, found):
    """The query with the refs that found has for ("relation", ref) of its sources; the others stay."""
    parts = []
    for sources, conditions, outputs in query:
        exchanged = [(alias, found.get(("relation", ref), ref)) for alias, ref in sources]
        parts.append((tuple(exchanged), conditions, outputs))
    return tuple(parts)
