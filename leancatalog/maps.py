"""Joins to which queries are written out, maps of a join to another one, and data by which joins are told apart."""

from leancatalog.definitions import BASES
from leancatalog.joins import columns_at, read_query, written_query
from leancatalog.words import is_integer

# An unnamed column of an atom has a term of its own: ("own", number of the atom, name of the column).


def written(catalog, query):
    """The list of the joins of a query."""
    full, _ = read_query(catalog, query)
    return written_query(catalog, full)


def agreed(terms, others, chosen):
    """The choice of terms for variables by which each of the terms becomes the other one, or None.

    chosen, a dict from variables to terms, is the choice so far, which stays.
    """
    made = {term: chosen[term] for term in chosen}
    for term, other in zip(terms, others):
        if term[0] == "var":
            term = made.setdefault(term, other)
        if term != other:
            return None
    return made


def agreed_atom(atom, others, at, chosen):
    """The same for the terms of an atom, and those of the columns in the atom at of others."""
    if others[at][0] != atom[0]:
        return None
    named = dict(others[at][1])
    terms = [term for _, term in atom[1]]
    return agreed(terms, [named.get(name, ("own", at, name)) for name, _ in atom[1]], chosen)


def is_map(one, other, thing):
    """Whether thing, any value, is a map of one join to another one."""
    if not isinstance(thing, tuple) or len(thing) != len(one[0]):
        return False
    if not all([is_integer(at) and 0 <= at < len(other[0]) for at in thing]):
        return False
    chosen = agreed(one[1], other[1], {})
    for atom, at in zip(one[0], thing):
        if chosen is not None:
            chosen = agreed_atom(atom, other[0], at, chosen)
    return chosen is not None


def least_rest(one, other, done, chosen, failed):
    """The least map that begins as the tuple done, by a choice that goes on from chosen, or None.

    failed gets what was tried in vain: how many atoms are done, and the terms chosen for variables of those left.
    """
    left = one[0][len(done):]
    if not left:
        return done
    tried = (len(done), tuple([chosen.get(term) for _, told in left for _, term in told]))
    if tried in failed:
        return None
    for at in range(len(other[0])):
        further = agreed_atom(left[0], other[0], at, chosen)
        found = None if further is None else least_rest(one, other, done + (at,), further, failed)
        if found is not None:
            return found
    failed[tried] = True
    return None


def map_of(one, other):
    """The least map of one join to another one, or None."""
    chosen = agreed(one[1], other[1], {})
    return None if chosen is None else least_rest(one, other, (), chosen, {})


def least_map(join, union):
    """The number of the least join of a union that has a map to a join, and its least map, or None."""
    for number, other in enumerate(union):
        found = map_of(other, join)
        if found is not None:
            return (number, found)
    return None


def within(one, other):
    """Maps from the joins of other by which all that one selects is selected by other, or a join that has none."""
    maps = []
    for at, join in enumerate(one):
        found = least_map(join, other)
        if found is None:
            return ("out", at)
        maps.append(found)
    return ("in", maps)


def constants_in(join):
    """The list of the values of the constants in a join."""
    terms = [term for _, told in join[0] for _, term in told] + list(join[1])
    return [term[1] for term in terms if term[0] in BASES]


def value_of(base, number):
    """One value of a base type for each number from 0 on."""
    return number if base == "int" else f"v{number}"


def free_value(base, barred):
    """A value of a base type that is not barred, a dict with values for keys."""
    number = 0
    while value_of(base, number) in barred:
        number += 1
    return value_of(base, number)


def give_value(term, base, values, barred):
    """Gives a term, if it has none yet, a value among values: its own if it is a constant, otherwise a free one."""
    if term not in values:
        values[term] = term[1] if term[0] in BASES else free_value(base, barred)
        barred[values[term]] = True


def frozen(catalog, join, *, without=()):
    """Data with a row for each atom of a join, each variable a value of its own, and the row that it selects."""
    barred = {value: True for value in [*without, *constants_in(join)]}
    values = {}
    data = {}
    for at, (table, told) in enumerate(join[0]):
        columns = columns_at(catalog, table)
        named = dict(told)
        terms = {name: named.get(name, ("own", at, name)) for name in sorted(list(columns))}
        for name in terms:
            give_value(terms[name], columns[name], values, barred)
        row = tuple([values[terms[name]] for name in terms])
        rows = data.setdefault(table, [])
        if row not in rows:
            rows.append(row)
    return (data, tuple([term[1] if term[0] in BASES else values[term] for term in join[1]]))
