"""Catalogs: items with their states and identities, and a search path."""

from leancatalog.errors import NoItem


class Identity:
    """What stays of an item that is renamed, moved or replaced. It is equal to itself alone."""


class Catalog:
    """A catalog of items. It never changes: what changes it makes another one."""

    def __init__(self):
        self._path = ()
        self._states = {}
        self._identities = {}
        self._leaners = {}

    @property
    def path(self):
        """The tuple of the names of the search path."""
        return self._path

    def __getitem__(self, at):
        """The definition of the item at an address, with full refs."""
        if at not in self._states:
            raise NoItem(at)
        return self._states[at][0]

    # Without this, Python would iterate over a catalog by the integers from 0 on.
    def __iter__(self):
        raise TypeError("a catalog is not iterated over: ask for its addresses")

    def __contains__(self, x):
        """Whether there is an item at an address."""
        return x in self._states

    def __len__(self):
        """The number of the items."""
        return len(self._states)

    def __eq__(self, other):
        """Whether other is a Catalog with the same addresses, states and path; identities do not matter."""
        return isinstance(other, Catalog) and self._states == other._states and self._path == other._path

    def addresses(self):
        """The addresses of the items in ascending order."""
        return sorted(list(self._states))

    def needs(self, address):
        """The needs of an item in ascending order."""
        if address not in self._states:
            raise NoItem(address)
        return list(self._states[address][1])

    def offers(self, address):
        """What an item offers, tuples (part, what), in ascending order."""
        if address not in self._states:
            raise NoItem(address)
        return list(self._states[address][2])

    def leaners(self, address):
        """The addresses of the other items that have a need of an item, in ascending order."""
        if address not in self._states:
            raise NoItem(address)
        return list(self._leaners[address])


def catalog_of(states, identities, path):
    """The Catalog with a path and the items whose states and identities two dicts from addresses have."""
    made = Catalog()
    made._path = path
    made._states = {address: states[address] for address in states}
    made._identities = {address: identities[address] for address in states}
    made._leaners = leaners_among(states)
    return made


def leaners_among(states):
    """A dict from each address to the ascending list of the others that have a need of it."""
    leaners = {address: [] for address in states}
    for other in sorted(list(states)):
        for address in sorted({need[0] for need in states[other][1] if need[0] != other}):
            leaners[address].append(other)
    return leaners


def states_of(catalog):
    """A dict from the addresses of a catalog to the states of its items."""
    return {address: catalog._states[address] for address in catalog._states}


def identities_of(catalog):
    """A dict from the addresses of a catalog to the identities of its items."""
    return {address: catalog._identities[address] for address in catalog._identities}


def addresses_by_identity(catalog):
    """A dict from the identities of the items of a catalog to their addresses."""
    return {catalog._identities[address]: address for address in catalog._identities}
