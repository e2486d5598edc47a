"""Dumps: the statements that create the items of a catalog, each behind those of what its item needs."""

from leancatalog.errors import Ring
from leancatalog.graphs import least_order, stand_in_order
from leancatalog.leans import leaned_on, ring
from leancatalog.statements import creation, is_statement


def ahead_of(catalog):
    """A dict from each address to the addresses of the other items that its item needs."""
    return {address: leaned_on(catalog, address) for address in catalog.addresses()}


def dump(catalog):
    """The dump in which each statement is about the least address that can stand there."""
    ordered = least_order(ahead_of(catalog))
    if len(ordered) < len(catalog):
        raise Ring(ring(catalog))
    return [creation(address, catalog[address]) for address in ordered]


def is_dump(catalog, thing):
    """Whether thing, any value, is a dump of the catalog."""
    if not isinstance(thing, list) or len(thing) != len(catalog):
        return False
    if not all([is_statement(statement) for statement in thing]):
        return False
    created = {address: creation(address, catalog[address]) for address in catalog.addresses()}
    told = [address for statement in thing for address in created if created[address] == statement]
    return sorted(told) == catalog.addresses() and stand_in_order(told, ahead_of(catalog))
