"""Which items of a catalog lean on which."""

from leancatalog.errors import NoItem
from leancatalog.graphs import least_ring, reached
from leancatalog.words import is_address


def must_stand(catalog, address):
    """Refuses an address where there is no item."""
    if address not in catalog:
        raise NoItem(address)


def leaned_on(catalog, address):
    """The ascending list of the other items on which an item leans."""
    return sorted({need[0] for need in catalog.needs(address) if need[0] != address})


def leaners_by_any(catalog, address, hows):
    """The ascending list of the items that lean on an item by one of several words."""
    return [other for other in catalog.leaners(address) if leans_by(catalog, other, address, hows)]


def leans_by(catalog, leaner, address, hows):
    """Whether an item has a need of another one by one of several words."""
    return any([need[0] == address and need[3] in hows for need in catalog.needs(leaner)])


def leaners_by(catalog, address, how):
    """The ascending list of the items that lean on an item by one of the three words."""
    must_stand(catalog, address)
    return leaners_by_any(catalog, address, (how,))


def supports(catalog, address):
    """The smallest list with an item and, with each one in it, all on which that leans."""
    must_stand(catalog, address)
    return reached(address, lambda item: leaned_on(catalog, item))


def is_function(catalog, thing):
    """Whether thing, any value, is the address of a function of the catalog."""
    return is_address(thing) and thing[0] == "function" and thing in catalog


def ring(catalog):
    """The shortest ring of functions that call one another, the least of several, or None."""
    return ring_among(catalog, [address for address in catalog.addresses() if address[0] == "function"])


def ring_among(catalog, functions):
    """The ring as above of these functions alone."""
    return least_ring({function: called_of(catalog, function, functions) for function in functions})


def called_of(catalog, function, functions):
    """Which of these functions, other than itself, a function calls."""
    return [other for other in leaned_on(catalog, function) if other in functions]


def is_ring(catalog, thing):
    """Whether thing, any value, is a ring of the catalog, wherever it begins."""
    if not isinstance(thing, list) or len(thing) < 2:
        return False
    if not all([is_function(catalog, item) for item in thing]) or len(set(thing)) < len(thing):
        return False
    return all([other in leaned_on(catalog, item) for item, other in zip(thing, thing[1:] + thing[:1])])
