"""Definitions of the eleven kinds: their form, and the refs in them."""

from leancatalog.exprs import MOST_PARAMS, is_expression, refs_in, with_refs_in
from leancatalog.queries import is_query, sources_in, with_sources
from leancatalog.words import is_integer, is_name, is_ref, is_tuple

BASES = ("int", "text")
TYPES = ("int", "text", "truth")
EVENTS = ("insert", "update", "delete")
HIGHEST_LAYER = 9

# The kinds whose definitions end with one expression, or with None in its place.
WITH_EXPRESSION = ("domain", "function", "column", "default", "check", "trigger")


def is_word(thing, words):
    """Whether thing, any value, is one of the words."""
    return isinstance(thing, str) and thing in words


def is_optional(thing, place):
    """Whether thing is None or an expression that may stand at a place."""
    return thing is None or is_expression(thing, place)


def is_empty(thing):
    """Whether thing defines a schema or a table."""
    return is_tuple(thing, 0, 0)


def is_domain(thing):
    """Whether thing defines a domain."""
    return is_tuple(thing, 2, 2) and is_word(thing[0], BASES) and is_optional(thing[1], "domain")


def is_sequence(thing):
    """Whether thing defines a sequence; an owner has the form of a ref of two names."""
    return is_tuple(thing, 1, 1) and (thing[0] is None or (isinstance(thing[0], tuple) and is_ref(thing[0])))


def is_view(thing):
    """Whether thing defines a view."""
    if not is_tuple(thing, 3, 3):
        return False
    layer, names, query = thing
    if not is_integer(layer) or not 1 <= layer <= HIGHEST_LAYER:
        return False
    if not isinstance(names, tuple) or not all([is_name(name) for name in names]):
        return False
    return len(set(names)) == len(names) and is_query(query) and len(names) == len(query[0][2])


def is_function(thing):
    """Whether thing defines a function."""
    if not is_tuple(thing, 3, 3):
        return False
    params, result, body = thing
    if not is_tuple(params, 0, MOST_PARAMS) or not all([is_word(param, BASES) for param in params]):
        return False
    return is_word(result, TYPES) and is_expression(body, "body")


def is_index(thing):
    """Whether thing defines an index."""
    if not is_tuple(thing, 2, 2) or not is_name(thing[0]) or not is_tuple(thing[1], 1, 4):
        return False
    return all([is_expression(part, "index") for part in thing[1]])


def is_column(thing):
    """Whether thing defines a column; int and text have the form of a domain's ref, too."""
    return is_tuple(thing, 2, 2) and is_ref(thing[0]) and is_optional(thing[1], "rule")


def is_default(thing):
    """Whether thing defines a default."""
    return is_tuple(thing, 1, 1) and is_expression(thing[0], "default")


def is_check(thing):
    """Whether thing defines a check."""
    return is_tuple(thing, 1, 1) and is_expression(thing[0], "check")


def is_trigger(thing):
    """Whether thing defines a trigger."""
    return is_tuple(thing, 2, 2) and is_word(thing[0], EVENTS) and is_expression(thing[1], "trigger")


FORMS = {
    "schema": is_empty,
    "domain": is_domain,
    "sequence": is_sequence,
    "table": is_empty,
    "view": is_view,
    "function": is_function,
    "index": is_index,
    "column": is_column,
    "default": is_default,
    "check": is_check,
    "trigger": is_trigger,
}


def is_definition(kind, thing):
    """Whether thing, any value, is a definition of a kind by its form, whatever its types."""
    has_form = FORMS[kind]
    return has_form(thing)


def expressions_of(kind, definition):
    """The list of the expressions of a definition, from left to right."""
    if kind == "index":
        return list(definition[-1])
    if kind not in WITH_EXPRESSION or definition[-1] is None:
        return []
    return [definition[-1]]


def table_around(address, definition):
    """The names of the schema and the table whose columns the expressions of the item at an address name."""
    return (address[1], definition[0]) if address[0] == "index" else address[1:3]


def has_domain(kind, definition):
    """Whether the definition is that of a column with a domain."""
    return kind == "column" and definition[0] not in BASES


def refs_of(kind, definition):
    """The spaces and refs of a definition, each once, sorted by space, then names ahead of tuples."""
    refs = [ref for expression in expressions_of(kind, definition) for ref in refs_in(expression)]
    if has_domain(kind, definition):
        refs.append(("domain", definition[0]))
    if kind == "view":
        refs.extend([("relation", ref) for ref in sources_in(definition[-1])])
    return sorted(list({ref: True for ref in refs}), key=lambda ref: (ref[0], isinstance(ref[1], tuple), ref[1]))


def last_with_refs(kind, last, found):
    """The last part of a definition with the refs that found has."""
    if kind == "view":
        return with_sources(last, found)
    if kind == "index":
        return tuple([with_refs_in(expression, found) for expression in last])
    if kind not in WITH_EXPRESSION or last is None:
        return last
    return with_refs_in(last, found)


def with_refs(kind, definition, found):
    """The definition with the refs that found has for those of refs_of; the others stay."""
    if is_empty(definition):
        return definition
    first = definition[:-1]
    if has_domain(kind, definition):
        first = (found.get(("domain", definition[0]), definition[0]),)
    return first + (last_with_refs(kind, definition[-1], found),)
