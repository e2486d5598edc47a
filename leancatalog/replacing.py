"""Replacing an item: what becomes of all that leans on it."""

from leancatalog.catalogs import states_of
from leancatalog.errors import Misfit, Needs
from leancatalog.falls import falls
from leancatalog.graphs import reached
from leancatalog.reading import state_in


def turn(address, definition):
    """The place of an item in the order in which definitions are read again."""
    kind = address[0]
    if kind == "domain":
        return (0, 0)
    if kind == "column":
        return (1 if definition[1] is None else 2, 0)
    if kind == "view":
        return (3, definition[0])
    return (4, 0)


def read_again(states, leaning):
    """The states with those of the items that lean on a replaced one read again, and the list of those that do not fit.

    What does not lean on it finds all that it asks as it was.
    """
    now = {item: states[item] for item in states}
    broken = []
    for item in sorted(leaning, key=lambda one: turn(one, states[one][0])):
        try:
            now[item] = state_in(now, item, states[item][0])
        except (Needs, Misfit):
            broken.append(item)
    return (now, broken)


def with_leaners(catalog, address, broken):
    """The ascending list of the broken items and of all that lean on them, other than by way of the replaced one."""
    leaners = {item: [other for other in catalog.leaners(item) if other != address] for item in catalog.addresses()}
    return sorted({item for start in broken for item in reached(start, lambda one: leaners[one])})


def replaced(catalog, address, definition):
    """The states behind the replacement of an item, of what falls too, and the lists of what falls and is made anew."""
    before = states_of(catalog)
    states = {item: before[item] for item in before}
    states[address] = state_in(before, address, definition)
    leaning = [item for item in falls(catalog, address) if item != address]
    now, broken = read_again(states, leaning)
    fallen = with_leaners(catalog, address, broken)
    # What is made anew keeps its definition, so its state changes if its needs or offers do.
    anew = [item for item in leaning if item not in fallen and now[item] != before[item]]
    return (now, fallen, anew)
