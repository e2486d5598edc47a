"""Reading definitions: the needs that an item has by its definition, and what is wrong with a catalog."""

from leancatalog.catalogs import states_of
from leancatalog.definitions import TYPES, expressions_of, refs_of, table_around
from leancatalog.errors import Misfit, Needs
from leancatalog.exprs import columns_in, type_of
from leancatalog.queries import fields_in, output_types, sources_in
from leancatalog.states import base_of, is_met, state_of, wanted_in
from leancatalog.words import namesakes, parent_of, rank

# What an item asks of others is a list of tuples (address, part, how, typed): typed if it wants what they offer.


def asked_of_place(address):
    """What an item asks by where it lies."""
    kind = address[0]
    if kind == "schema":
        return []
    if len(address) == 3:
        return [(parent_of(address), None, "hard", False)]
    return [(parent_of(address), None, "owned", kind == "default")]


def asked_of_table(address, definition):
    """What an index asks of its table, or a sequence of its owner."""
    if address[0] == "index":
        return [(("table", address[1], definition[0]), None, "owned", False)]
    if address[0] == "sequence" and definition[0] is not None:
        return [(("column", address[1]) + definition[0], None, "owned", False)]
    return []


def asked_by_expressions(address, definition):
    """What an item asks by its domain, and by the calls, nexts and columns in its expressions."""
    kind = address[0]
    asked = [((space,) + ref, None, "hard", space != "sequence") for space, ref in refs_of(kind, definition)]
    part, how = ("plain", "hard") if kind == "column" else (None, "soft")
    table = table_around(address, definition)
    for expression in expressions_of(kind, definition):
        asked.extend([(("column",) + table + (name,), part, how, True) for name in columns_in(expression)])
    return asked


def source_at(states, address, ref):
    """The address of what a source of the view at an address tells, a table if it tells nothing."""
    view = ("view",) + ref
    return view if view == address or view in states else ("table",) + ref


def asked_by_query(states, address, query):
    """What the view at an address asks by its query."""
    at = {ref: source_at(states, address, ref) for ref in sources_in(query)}
    asked = [(source, None, "hard", False) for source in at.values()]
    for ref, name in fields_in(query):
        if at[ref][0] == "view":
            asked.append((at[ref], name, "hard", True))
        elif at[ref] in states:
            asked.append((("column",) + ref + (name,), None, "hard", True))
    return asked


def asked_in(states, address, definition):
    """All that an item at an address asks of others by a definition."""
    asked = asked_of_place(address) + asked_of_table(address, definition)
    if address[0] == "view":
        return asked + asked_by_query(states, address, definition[2])
    return asked + asked_by_expressions(address, definition)


def with_itself(states, address, definition):
    """The states with what the definition tells at the address, where the item may ask itself.

    Only a function gets what it asks: a column in its own rule is not plain, and no view lies below its own layer.
    """
    offers = ()
    if address[0] == "function":
        offers = ((None, definition[:2]),)
    elif address[0] == "view":
        offers = ((None, definition[0]),)
    among = {item: states[item] for item in states}
    among[address] = (definition, (), offers)
    return among


def need_for(asked, states, address, definition):
    """The need for what an item at an address asks; states has the item itself, too."""
    item, part, how, typed = asked
    wanted = None
    if typed:
        wanted = dict(states[item][2]).get(part)
    elif item[0] == "view":
        wanted = ("below", definition[0])
    need = (item, part, wanted, how)
    if (typed and wanted is None) or not is_met(need, states):
        raise Misfit(address)
    return need


def types_wanted(address, definition, wanted):
    """The types that the expressions of an item may have; wanted has what its needs want."""
    kind = address[0]
    if kind == "index":
        return TYPES
    if kind == "default":
        return (wanted[parent_of(address), None],)
    if kind == "function":
        return (definition[1],)
    if kind == "column":
        return (base_of(definition, wanted),)
    return ("truth",)


def expressions_fit(address, definition, wanted):
    """Whether the expressions of an item have the types that they have to have; wanted has what its needs want."""
    kind = address[0]
    types = types_wanted(address, definition, wanted)
    columns = {item[-1]: wanted[item, part] for item, part in wanted if item[0] == "column"}
    functions = {item[1:]: wanted[item, part] for item, part in wanted if item[0] == "function"}
    value = definition[0] if kind == "domain" else None
    params = definition[0] if kind == "function" else ()
    found = [
        type_of(expression, columns=columns, value=value, params=params, functions=functions)
        for expression in expressions_of(kind, definition)
    ]
    return all([one in types for one in found])


def query_fits(query, wanted):
    """Whether the types of a view's query are as they have to be; wanted has what its needs want."""
    columns = {ref: {} for ref in sources_in(query)}
    for item, part in wanted:
        if item[0] == "column":
            columns[item[1:3]][item[3]] = wanted[item, part]
        elif part is not None:
            columns[item[1:]][part] = wanted[item, part]
    return output_types(query, columns) is not None


def needs_in(states, address, definition):
    """The needs, in no order, that an item at an address has by a definition among the items with these states."""
    asked = asked_in(states, address, definition)
    missing = [one[0] for one in asked if one[0] != address and one[0] not in states]
    if missing:
        raise Needs(address, min(missing))
    among = with_itself(states, address, definition)
    needs = [need_for(one, among, address, definition) for one in asked]
    wanted = wanted_in(needs)
    if address[0] == "view":
        fits = query_fits(definition[2], wanted)
    else:
        fits = expressions_fit(address, definition, wanted)
    if not fits:
        raise Misfit(address)
    return needs


def state_in(states, address, definition):
    """The state that an item at an address has by a definition among the items with these states."""
    return state_of(address[0], definition, needs_in(states, address, definition))


def read(catalog, address, definition):
    """The needs that an item at an address has by a definition with full refs, in ascending order."""
    return list(state_in(states_of(catalog), address, definition)[1])


def faults(items):
    """The tuples (address, need) for needs that are not met, and (address, None) for names that stand twice."""
    states = {address: state_of(address[0], items[address][0], items[address][1]) for address in items}
    found = [(address, need) for address in states for need in states[address][1] if not is_met(need, states)]
    for address in states:
        if len([other for other in namesakes(address) if other in states]) > 1:
            found.append((address, None))
    return sorted(found, key=rank)
