"""Data of a catalog, and the rows that queries and unions select from them."""

from leancatalog.errors import NoItem
from leancatalog.exprs import is_constant
from leancatalog.joins import columns_at
from leancatalog.maps import written
from leancatalog.words import is_address

MOST_ROWS = 6


def columns_of(catalog, address):
    """The names of the columns of a table, in ascending order, or of a view, in their order."""
    if address not in catalog or address[0] not in ("table", "view"):
        raise NoItem(address)
    if address[0] == "view":
        return list(catalog[address][1])
    return sorted(list(columns_at(catalog, address)))


def is_row(thing, bases):
    """Whether thing is a tuple with a value for each of the base types."""
    if not isinstance(thing, tuple) or len(thing) != len(bases):
        return False
    return all([is_constant((base, value)) for base, value in zip(bases, thing)])


def are_rows(catalog, address, thing):
    """Whether address, any key of a dict, is that of a table, and thing a list of rows of it."""
    if not is_address(address) or address[0] != "table" or address not in catalog:
        return False
    if not isinstance(thing, list) or len(thing) > MOST_ROWS:
        return False
    columns = columns_at(catalog, address)
    bases = [columns[name] for name in columns_of(catalog, address)]
    return all([is_row(row, bases) for row in thing]) and len(set(thing)) == len(thing)


def are_data(catalog, thing):
    """Whether thing, any value, is data of the catalog."""
    return isinstance(thing, dict) and all([are_rows(catalog, address, thing[address]) for address in thing])


def chosen_with(terms, values, chosen):
    """The choice of values for variables by which each of the terms becomes a value, or None.

    chosen, a dict from variables to values, is the choice so far, which stays.
    """
    made = {term: chosen[term] for term in chosen}
    for term, value in zip(terms, values):
        wanted = made.setdefault(term, value) if term[0] == "var" else term[1]
        if wanted != value:
            return None
    return made


def values_named(catalog, atom, data):
    """The values in the columns that an atom names of the rows of its table, tuples, each once."""
    table, told = atom
    columns = columns_of(catalog, table)
    places = [columns.index(name) for name, _ in told]
    return list({tuple([row[place] for place in places]): True for row in data.get(table, [])})


def told_apart(choices, wanted):
    """The choices for the wanted variables alone, each once."""
    kept = [{term: choice[term] for term in choice if term in wanted} for choice in choices]
    # All choices have the same variables, in the same order.
    return list({tuple(list(choice.values())): choice for choice in kept}.values())


def choices_for(catalog, join, data):
    """The choices of values for the variables of a join's outputs by which each of its atoms has a row."""
    atoms, outputs = join
    found = [{}]
    for at, atom in enumerate(atoms):
        terms = [term for _, term in atom[1]]
        rows = values_named(catalog, atom, data)
        made = [chosen_with(terms, values, chosen) for chosen in found for values in rows]
        later = [term for _, told in atoms[at + 1:] for _, term in told]
        found = told_apart([chosen for chosen in made if chosen is not None], later + list(outputs))
    return found


def rows_of_union(catalog, union, data):
    """The rows that a union selects from data, in ascending order."""
    rows = []
    for join in union:
        for chosen in choices_for(catalog, join, data):
            rows.append(tuple([chosen[term] if term[0] == "var" else term[1] for term in join[1]]))
    return sorted(set(rows))


def rows_of(catalog, query, data):
    """The rows that a query selects from data, in ascending order."""
    return rows_of_union(catalog, written(catalog, query), data)
