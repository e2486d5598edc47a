"""Ways from item to item, along steps: a function from an item to a list of those one step on."""


def distances(start, steps):
    """A dict with the number of steps to each item that is reached from start, start included."""
    away = {start: 0}
    level = [start]
    while level:
        further = []
        for item in level:
            for other in steps(item):
                if other not in away:
                    away[other] = away[item] + 1
                    further.append(other)
        level = further
    return away


def reached(start, steps):
    """The ascending list of the items that are reached from start, start included."""
    return sorted(list(distances(start, steps)))


def least_way(start, away, steps):
    """The least of the shortest lists of items from start to the one that is no step away.

    away has the distances of the items to that one, start among them; steps lead from start to it.
    """
    way = [start]
    for left in reversed(range(away[start])):
        way.append(min([other for other in steps(way[-1]) if away.get(other) == left]))
    return way
