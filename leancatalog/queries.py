"""Queries: their form, the refs of their sources, the columns that they name, and the types of their outputs."""

from leancatalog.exprs import is_constant
from leancatalog.words import is_name, is_ref, is_tuple


def is_source(thing):
    """Whether thing is an alias with a ref."""
    return is_tuple(thing, 2, 2) and is_name(thing[0]) and is_ref(thing[1])


def is_field(thing, aliases):
    """Whether thing is a side that tells a column of one of the aliases."""
    if not is_tuple(thing, 3, 3) or not all([is_name(part) for part in thing]):
        return False
    return thing[0] == "of" and thing[1] in aliases


def is_side(thing, aliases):
    """Whether thing is a side of a query's part."""
    return is_field(thing, aliases) or is_constant(thing)


def is_condition(thing, aliases):
    """Whether thing is a condition of a query's part."""
    return is_tuple(thing, 2, 2) and is_field(thing[0], aliases) and is_side(thing[1], aliases)


def is_part(thing):
    """Whether thing is a part of a query."""
    if not is_tuple(thing, 3, 3):
        return False
    sources, conditions, outputs = thing
    if not is_tuple(sources, 1, 3) or not all([is_source(source) for source in sources]):
        return False
    aliases = [source[0] for source in sources]
    if len(set(aliases)) < len(aliases):
        return False
    if not is_tuple(conditions, 0, 6) or not all([is_condition(condition, aliases) for condition in conditions]):
        return False
    return is_tuple(outputs, 1, 6) and all([is_side(output, aliases) for output in outputs])


def is_query(thing):
    """Whether thing, any value, is a query by its form: what is there, and types, do not matter."""
    if not is_tuple(thing, 1, 4) or not all([is_part(part) for part in thing]):
        return False
    return len({len(part[2]) for part in thing}) == 1


def sources_in(query):
    """The refs of a query's sources, each once, in the order in which they first stand in it."""
    return list({source[1]: True for part in query for source in part[0]})


def with_sources(query, found):
    """The query with the refs that found has for ("relation", ref) of its sources; the others stay."""
    parts = []
    for sources, conditions, outputs in query:
        exchanged = [(alias, found.get(("relation", ref), ref)) for alias, ref in sources]
        parts.append((tuple(exchanged), conditions, outputs))
    return tuple(parts)


def sides_in(part):
    """The list of the sides in the conditions and outputs of a query's part."""
    return [side for condition in part[1] for side in condition] + list(part[2])


def fields_in(query):
    """The refs with the columns of theirs that a query names, tuples, each once."""
    fields = []
    for part in query:
        refs = {alias: ref for alias, ref in part[0]}
        fields.extend([(refs[side[1]], side[2]) for side in sides_in(part) if side[0] == "of"])
    return list({field: True for field in fields})


def side_type(side, columns):
    """The type of a side, or None; columns is a dict from aliases to dicts from columns to types."""
    return columns[side[1]].get(side[2]) if side[0] == "of" else side[0]


def part_types(part, columns):
    """The types of the outputs of a query's part, or None, as below."""
    named = {alias: columns[ref] for alias, ref in part[0]}
    if None in [side_type(side, named) for side in sides_in(part)]:
        return None
    if not all([side_type(one, named) == side_type(other, named) for one, other in part[1]]):
        return None
    return tuple([side_type(output, named) for output in part[2]])


def output_types(query, columns):
    """The types of a query's outputs, or None if a column is not there or types do not fit.

    columns is a dict from the refs of the sources to dicts from columns to types.
    """
    found = [part_types(part, columns) for part in query]
    return found[0] if all([types == found[0] for types in found]) else None


def with_fields(query, found):
    """The query with the columns that found, a dict, has for those of fields_in; the others stay."""
    parts = []
    for sources, conditions, outputs in query:
        refs = {alias: ref for alias, ref in sources}
        changed = [(side_with(one, refs, found), side_with(other, refs, found)) for one, other in conditions]
        parts.append((sources, tuple(changed), tuple([side_with(output, refs, found) for output in outputs])))
    return tuple(parts)


def side_with(side, refs, found):
    """A side with the column that found has for its own; refs has those of the aliases."""
    if side[0] != "of":
        return side
    return side[:2] + (found.get((refs[side[1]], side[2]), side[2]),)
