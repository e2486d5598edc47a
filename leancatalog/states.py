"""The state of an item as it is kept: its definition, its needs, and what these tell that it offers."""

from leancatalog.definitions import has_domain
from leancatalog.words import rank


def state_of(kind, definition, needs):
    """A tuple of the definition, the needs and the offers of an item of a kind, the last two in their order."""
    told = sorted(list({need: True for need in needs}), key=rank)
    return (definition, tuple(told), tuple(sorted(offers_of(kind, definition, told), key=rank)))


def offers_of(kind, definition, needs):
    """The tuples (part, what) that an item of a kind offers."""
    wanted = wanted_in(needs)
    if kind == "domain":
        return [(None, definition[0])]
    if kind == "column":
        return column_offers(definition, base_of(definition, wanted))
    if kind == "function":
        return [(None, definition[:2])]
    if kind == "view":
        return view_offers(definition, wanted)
    return [(None, None)]


def wanted_in(needs):
    """A dict from tuples (address, part) to what is wanted of them."""
    return {(address, part): wanted for address, part, wanted, _ in needs}


def base_of(definition, wanted):
    """The base type of a column; wanted has that of its domain."""
    return wanted[(("domain",) + definition[0], None)] if has_domain("column", definition) else definition[0]


def column_offers(definition, base):
    """What a column of a base type offers."""
    return [(None, base)] if definition[1] is not None else [(None, base), ("plain", base)]


def view_offers(definition, wanted):
    """What a view offers; wanted has the types of the columns that it names."""
    layer, names, query = definition
    refs = {alias: ref for alias, ref in query[0][0]}
    outputs = query[0][2]
    return [(None, layer)] + [(name, output_type(output, refs, wanted)) for name, output in zip(names, outputs)]


def output_type(output, refs, wanted):
    """The type of an output of a view; refs has those of the aliases."""
    if output[0] != "of":
        return output[0]
    ref = refs[output[1]]
    of_table = (("column",) + ref + output[2:], None)
    return wanted[of_table] if of_table in wanted else wanted[(("view",) + ref, output[2])]


def is_offered(need, offers):
    """Whether an item that has these offers meets a need of it."""
    _, part, wanted, _ = need
    if wanted is None:
        return True
    what = dict(offers).get(part)
    if isinstance(wanted, tuple) and wanted[0] == "below":
        return what < wanted[1]
    return what == wanted


def is_met(need, states):
    """Whether a need is met by the items whose states are those of the dict."""
    return need[0] in states and is_offered(need, states[need[0]][2])
