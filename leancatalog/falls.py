"""What falls if an item is dropped, why, and in which order it can be dropped."""

from leancatalog.graphs import distances, least_order, least_way, reached, stand_in_order
from leancatalog.leans import leaned_on, leaners_by_any, must_stand, ring_among
from leancatalog.words import is_address


def falls(catalog, address):
    """The smallest list with an item and, with each one in it, all that lean on that."""
    must_stand(catalog, address)
    return reached(address, lambda item: catalog.leaners(item))


def taken(catalog, address):
    """The smallest list with an item and, with each one in it, all that lean on that by soft or owned leans."""
    must_stand(catalog, address)
    return reached(address, lambda item: leaners_by_any(catalog, item, ("soft", "owned")))


def blocked(catalog, address, way):
    """The least address that bars dropping an item in a way, or None."""
    must_stand(catalog, address)
    if way == "cascade":
        return None
    allowed = [address] if way == "alone" else taken(catalog, address)
    return min([item for item in falls(catalog, address) if item not in allowed], default=None)


def chain(catalog, address, other):
    """The shortest chain of leans from other to address, the least of several, or None."""
    must_stand(catalog, address)
    must_stand(catalog, other)
    away = distances(address, lambda item: catalog.leaners(item))
    if other not in away:
        return None
    return least_way(other, away, lambda item: leaned_on(catalog, item))


def is_chain(catalog, address, other, thing):
    """Whether thing, any value, is a chain of leans from other to address."""
    must_stand(catalog, address)
    must_stand(catalog, other)
    if not isinstance(thing, list) or not thing:
        return False
    if not all([is_address(item) and item in catalog for item in thing]) or len(set(thing)) < len(thing):
        return False
    if thing[0] != other or thing[-1] != address:
        return False
    return all([after in leaned_on(catalog, item) for item, after in zip(thing, thing[1:])])


def order(catalog, address):
    """The least order in which all that falls can be dropped alone, or the ring of functions that stops it."""
    fallen = falls(catalog, address)
    dropped = least_order({item: catalog.leaners(item) for item in fallen})
    if len(dropped) < len(fallen):
        return ("ring", ring_among(catalog, [item for item in fallen if item[0] == "function"]))
    return ("order", dropped)


def is_order(catalog, address, thing):
    """Whether thing, any value, is a list of all that falls in an order in which it can be dropped alone."""
    fallen = falls(catalog, address)
    if not isinstance(thing, list) or not all([is_address(item) for item in thing]) or sorted(thing) != fallen:
        return False
    return stand_in_order(thing, {item: catalog.leaners(item) for item in fallen})
