"""Plans of queries that are kept, and what becomes of them in later catalogs."""

from leancatalog.answers import are_data, is_row, rows_of_union
from leancatalog.catalogs import Catalog, addresses_by_identity, identities_of
from leancatalog.definitions import is_word
from leancatalog.errors import Misfit, NoItem, NoName, Wrong
from leancatalog.joins import numbered, read_query, written_query
from leancatalog.maps import constants_in, frozen, is_map, within
from leancatalog.queries import is_query
from leancatalog.words import is_address, is_integer, is_tuple


class Plan:
    """A query as it was written out in one catalog. It never changes."""

    def __init__(self, catalog, query):
        if not isinstance(catalog, Catalog):
            raise Wrong(0)
        if not is_query(query):
            raise Wrong(1)
        full, types = read_query(catalog, query)
        self._first = catalog
        self._query = query
        self._types = types
        self._union = written_query(catalog, full)

    @property
    def query(self):
        """The query, as it was passed."""
        return self._query

    @property
    def first(self):
        """The Catalog in which the query was written out."""
        return self._first

    def joins(self, catalog):
        """The joins of the plan with the addresses that their tables and columns have in another catalog."""
        new = standing(self, catalog)
        broken = broken_among(self, new)
        if broken:
            raise NoItem(broken[0])
        return [join_with(join, new) for join in self._union]


def column_at(table, name):
    """The address of a column of the table at an address."""
    return ("column",) + table[1:] + (name,)


def named_by(plan):
    """The ascending list of the tables of a plan's joins, and of their columns that it names, as they were at first."""
    tables = [table for join in plan._union for table, _ in join[0]]
    columns = [column_at(table, name) for join in plan._union for table, told in join[0] for name, _ in told]
    return sorted(set(tables + columns))


def standing(plan, catalog):
    """A dict from the named tables and columns to their addresses in a catalog, if they serve there as at first."""
    identities = identities_of(plan._first)
    now = addresses_by_identity(catalog)
    new = {item: now.get(identities[item]) for item in named_by(plan)}
    # The first offer of a column is its base type, that of a table that it is there.
    return {
        item: new[item] for item in new
        if new[item] is not None and catalog.offers(new[item])[0] == plan._first.offers(item)[0]
    }


def broken_among(plan, new):
    """The ascending list of the named tables and columns that are not among those that serve as at first."""
    return [item for item in named_by(plan) if item not in new]


def join_with(join, new):
    """A join with the new addresses of its tables and columns."""
    atoms = [
        (new[table], sorted([(new[column_at(table, name)][3], term) for name, term in told]))
        for table, told in join[0]
    ]
    return numbered(atoms, join[1])


def read_again(catalog, plan):
    """The joins to which the query of a plan is written out in a catalog, or None if the plan is lost there."""
    try:
        full, types = read_query(catalog, plan._query)
    except (NoName, NoItem, Misfit):
        return None
    return written_query(catalog, full) if types == plan._types else None


def stale(catalog, join, others, word):
    """The judgement by a join that selects what the others do not."""
    # A value that a constant of the others asks for would be no new one to them.
    asked = [value for other in others for value in constants_in(other)]
    data, row = frozen(catalog, join, without=asked)
    return ("stale", data, row, word)


def judged(catalog, plan):
    """What has become of a plan at a catalog."""
    broken = broken_among(plan, standing(plan, catalog))
    if broken:
        return ("broken", broken[0])
    new = read_again(catalog, plan)
    if new is None:
        return ("lost",)
    kept = plan.joins(catalog)
    forth, back = within(kept, new), within(new, kept)
    if forth[0] == "out":
        return stale(catalog, kept[forth[1]], new, "kept")
    if back[0] == "out":
        return stale(catalog, new[back[1]], kept, "new")
    return ("fresh", forth[1], back[1])


def are_maps(one, other, thing):
    """Whether thing, any value, is a list with a number of a join of other and a map of it for each join of one."""
    if not isinstance(thing, list) or len(thing) != len(one):
        return False
    for join, told in zip(one, thing):
        if not is_tuple(told, 2, 2) or not is_integer(told[0]) or not 0 <= told[0] < len(other):
            return False
        if not is_map(other[told[0]], join, told[1]):
            return False
    return True


def is_selected(catalog, union, told):
    """Whether a union selects the row of a judgement from its data."""
    return told[2] in rows_of_union(catalog, union, told[1])


def is_judged(catalog, plan, thing):
    """Whether thing, any value, is a right judgement of a plan at a catalog."""
    broken = broken_among(plan, standing(plan, catalog))
    word = thing[0] if is_tuple(thing, 1, 4) else None
    if broken:
        return is_word(word, ("broken",)) and len(thing) == 2 and is_address(thing[1]) and thing[1] in broken
    new = read_again(catalog, plan)
    if new is None:
        return is_word(word, ("lost",)) and len(thing) == 1
    kept = plan.joins(catalog)
    if is_word(word, ("fresh",)) and len(thing) == 3:
        return are_maps(kept, new, thing[1]) and are_maps(new, kept, thing[2])
    if not is_word(word, ("stale",)) or len(thing) != 4 or not is_word(thing[3], ("kept", "new")):
        return False
    if not are_data(catalog, thing[1]) or not is_row(thing[2], plan._types):
        return False
    one, other = (kept, new) if thing[3] == "kept" else (new, kept)
    return is_selected(catalog, one, thing) and not is_selected(catalog, other, thing)
