"""Migrations as events, and the links by which one event has to come ahead of another one.

A choice is an ascending list of the items of both catalogs that are dropped and created anew.
"""

from leancatalog.catalogs import states_of
from leancatalog.graphs import least_ring
from leancatalog.states import is_met
from leancatalog.words import namesakes, rank

# What may be dropped and created anew; the last two kinds have to be where they are unlike, as nothing replaces them.
CHOSEN = ("domain", "view", "function", "default", "check", "index", "trigger")
NOT_REPLACED = ("index", "trigger")


class Pair:
    """Two catalogs, with what is the same for all choices of what is dropped and created anew between them."""

    def __init__(self, one, other):
        old, new = states_of(one), states_of(other)
        self.ends = sorted(list(old))
        self.beginnings = sorted(list(new))
        self.alike = {item: old[item] == new[item] for item in self.ends if item in new}
        self.free = [item for item in self.ends if item in self.alike and item[0] in CHOSEN]
        self.least = [item for item in self.free if item[0] in NOT_REPLACED and not self.alike[item]]
        self.old_needs = needs_beside(old, new)
        self.new_needs = needs_beside(new, old)
        self.exchanged = exchanged(old, new)


def needs_beside(states, others):
    """The list of the tuples (item, need, met) for the needs that items have of others, met if other states do, too."""
    return [
        (item, need, is_met(need, others)) for item in states for need in states[item][1] if need[0] != item
    ]


def exchanged(old, new):
    """The list of the tuples of an item that is old alone and one that is new alone, with one name in one space."""
    gone = [item for item in old if item not in new]
    return [(item, name) for item in gone for name in namesakes(item) if name in new and name not in old]


def choices(one, other):
    """The least choice, and the list of all addresses that may be in one."""
    pair = Pair(one, other)
    return (pair.least, pair.free)


def events_of(pair, choice):
    """Two dicts from addresses to events: the end of each item of one, and the beginning of each item of other."""
    both = [item for item in pair.alike if item not in choice]
    kept = {item: ("stay" if pair.alike[item] else "replace", item) for item in both}
    ends = {item: kept.get(item, ("drop", item)) for item in pair.ends}
    beginnings = {item: kept.get(item, ("create", item)) for item in pair.beginnings}
    return (ends, beginnings)


def whys_of(pair, choice):
    """A dict from each event to a dict from the later ones to which links lead to the lists of their whys."""
    ends, beginnings = events_of(pair, choice)
    whys = {event: {} for event in list(ends.values()) + list(beginnings.values())}
    for item, need, met in pair.old_needs:
        later = ends[need[0]]
        if later[0] == "drop" or (later[0] == "replace" and not met):
            whys[ends[item]].setdefault(later, []).append(("old", item, need))
    for item, need, met in pair.new_needs:
        first = beginnings[need[0]]
        if first[0] == "create" or (first[0] == "replace" and not met):
            whys[first].setdefault(beginnings[item], []).append(("new", item, need))
    for item in choice:
        whys[ends[item]].setdefault(beginnings[item], []).append(("again", item))
    for item, name in pair.exchanged:
        whys[ends[item]].setdefault(beginnings[name], []).append(("name", item, name))
    return whys


def links(one, other, choice):
    """The links of a choice in ascending order."""
    whys = whys_of(Pair(one, other), choice)
    found = [(event, later, why) for event in whys for later in whys[event] for why in whys[event][later]]
    return sorted(found, key=rank)


def least_ring_in(whys):
    """The ring with the fewest links, the least of several, or None."""
    events = least_ring({event: list(whys[event]) for event in whys})
    if events is None:
        return None
    ends = events[1:] + events[:1]
    return [(event, later, min(whys[event][later], key=rank)) for event, later in zip(events, ends)]


def ring(one, other, choice):
    """The ring with the fewest links, the least of several, or None."""
    return least_ring_in(whys_of(Pair(one, other), choice))
