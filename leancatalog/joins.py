"""Reading a query in a catalog, and writing it out to joins of tables alone."""

from leancatalog.definitions import BASES
from leancatalog.errors import Misfit, NoItem, NoName, TooMany
from leancatalog.graphs import distances
from leancatalog.paths import told
from leancatalog.queries import output_types, sides_in, sources_in, with_sources
from leancatalog.words import is_name

MOST_JOINS = 8
MOST_TABLES = 6

# A choice is a tuple (atoms, links, outputs): the tables with their columns, the pairs of terms that are to be the
# same, and the terms of the outputs. Here a term is a constant or ("at", k, column), a column of the atom k.


def columns_at(catalog, address):
    """A dict from the names of the columns of a table or a view to their types."""
    if address[0] == "view":
        return {part: what for part, what in catalog.offers(address) if part is not None}
    columns = [item for item in catalog.addresses() if item[0] == "column" and item[1:3] == address[1:]]
    return {item[3]: dict(catalog.offers(item))[None] for item in columns}


def source_told(catalog, ref):
    """The address of the table or the view that a ref tells."""
    address = told(catalog, "relation", ref, ("table", "view"))
    if address is None and is_name(ref):
        raise NoName("relation", ref)
    if address is None:
        raise NoItem(("table",) + ref)
    return address


def read_query(catalog, query):
    """The query with full refs, and the types of its outputs."""
    sources = {ref: source_told(catalog, ref) for ref in sources_in(query)}
    types = output_types(query, {ref: columns_at(catalog, sources[ref]) for ref in sources})
    if types is None:
        raise Misfit(None)
    return (with_sources(query, {("relation", ref): sources[ref][1:] for ref in sources}), types)


def size_of(catalog, query, known):
    """How many joins a query has, and how many tables the greatest one; known gets those of the views in it."""
    many, greatest = 0, 0
    for sources, _, _ in query:
        choices, tables = 1, 0
        for _, ref in sources:
            size = size_of_source(catalog, ref, known)
            choices, tables = choices * size[0], tables + size[1]
        many, greatest = many + choices, max(greatest, tables)
    return (many, greatest)


def size_of_source(catalog, ref, known):
    """The same for a table or a view; each view is counted once, as there may be very many ways to it."""
    view = ("view",) + ref
    if view not in catalog:
        return (1, 1)
    if view not in known:
        known[view] = size_of(catalog, catalog[view][2], known)
    return known[view]


def choices_of_source(catalog, part, alias, ref):
    """The choices for a source of a query's part, each with a dict from its columns to terms for outputs."""
    view = ("view",) + ref
    if view not in catalog:
        names = sorted({side[2] for side in sides_in(part) if side[0] == "of" and side[1] == alias})
        return [([(("table",) + ref, names)], [], {name: ("at", 0, name) for name in names})]
    _, names, query = catalog[view]
    return [
        (atoms, links, {name: output for name, output in zip(names, outputs)})
        for atoms, links, outputs in choices_of(catalog, query)
    ]


def later(term, many):
    """A term in which atoms count from behind many other ones."""
    return ("at", term[1] + many, term[2]) if term[0] == "at" else term


def put_together(part, chosen):
    """The choice for a query's part with these choices for its sources."""
    atoms, links, terms = [], [], {}
    for (alias, _), (more, joined, columns) in zip(part[0], chosen):
        many = len(atoms)
        links.extend([(later(one, many), later(other, many)) for one, other in joined])
        for name in columns:
            terms[(alias, name)] = later(columns[name], many)
        atoms.extend(more)
    for one, other in part[1]:
        links.append((terms.get(one[1:], one), terms.get(other[1:], other)))
    return (atoms, links, [terms.get(output[1:], output) for output in part[2]])


def choices_of(catalog, query):
    """The list of the choices for a query with full refs."""
    found = []
    for part in query:
        chosen = [[]]
        for alias, ref in part[0]:
            more = choices_of_source(catalog, part, alias, ref)
            chosen = [before + [one] for before in chosen for one in more]
        found.extend([put_together(part, sources) for sources in chosen])
    return found


def terms_joined(links):
    """A dict from the terms in links to the terms that are the same for each, or None if two constants are."""
    steps = {}
    for one, other in links:
        steps.setdefault(one, []).append(other)
        steps.setdefault(other, []).append(one)
    same = {}
    for term in steps:
        group = sorted(list(distances(term, lambda item: steps[item])))
        constants = [one for one in group if one[0] in BASES]
        if len(constants) > 1:
            return None
        same[term] = constants[0] if constants else group[0]
    return same


def numbered(atoms, outputs):
    """The join of atoms and outputs, with a variable for each term that is no constant, in the order of the atoms."""
    numbers = {}
    for _, terms in atoms:
        for _, term in terms:
            if term[0] not in BASES:
                numbers.setdefault(term, ("var", len(numbers)))
    joined = [(table, tuple([(name, numbers.get(term, term)) for name, term in named])) for table, named in atoms]
    return (tuple(joined), tuple([numbers.get(term, term) for term in outputs]))


def join_of(choice):
    """The join for a choice, or None if it is left out."""
    atoms, links, outputs = choice
    same = terms_joined(links)
    if same is None:
        return None
    joined = [
        (table, [(name, same.get(("at", at, name), ("at", at, name))) for name in names])
        for at, (table, names) in enumerate(atoms)
    ]
    return numbered(joined, [same.get(output, output) for output in outputs])


def written_query(catalog, query):
    """The list of the joins of a query with full refs that can be read."""
    many, greatest = size_of(catalog, query, {})
    if many > MOST_JOINS:
        raise TooMany(MOST_JOINS)
    if greatest > MOST_TABLES:
        raise TooMany(MOST_TABLES)
    joins = [join_of(choice) for choice in choices_of(catalog, query)]
    return [join for join in joins if join is not None]
