"""Ways from item to item, along steps: a function from an item to a list of those one step on, or a dict of these."""


def distances(start, steps):
    """A dict with the number of steps to each item that is reached from start, start included."""
    away = {start: 0}
    level = [start]
    while level:
        further = []
        for item in level:
            for other in steps(item):
                if other not in away:
                    away[other] = away[item] + 1
                    further.append(other)
        level = further
    return away


def reached(start, steps):
    """The ascending list of the items that are reached from start, start included."""
    return sorted(list(distances(start, steps)))


def least_way(start, away, steps):
    """The least of the shortest lists of items from start to the one that is no step away.

    away has the distances of the items to that one, start among them; steps lead from start to it.
    """
    way = [start]
    for left in reversed(range(away[start])):
        way.append(min([other for other in steps(way[-1]) if away.get(other) == left]))
    return way


def turned(steps):
    """A dict from items to lists of items, the other way about."""
    back = {item: [] for item in steps}
    for item in steps:
        for other in steps[item]:
            back[other].append(item)
    return back


def without_ends(steps):
    """A dict of the steps among the items from which one can go on without end."""
    left = steps
    many = None
    while len(left) != many:
        many = len(left)
        left = {item: [other for other in left[item] if left[other]] for item in left if left[item]}
    return left


def ring_through(start, steps, back):
    """The shortest ring that begins with an item, the least of several, or None; back has the steps turned."""
    away = distances(start, lambda item: back[item])
    nearest = min([other for other in steps[start] if other in away], key=lambda item: (away[item], item), default=None)
    if nearest is None:
        return None
    return [start] + least_way(nearest, away, lambda item: steps[item])[:-1]


def least_ring(steps):
    """The shortest list of items each of which leads to the next one, the last one to the first one, or None.

    steps is a dict from items to lists of other items. Of several rings it is the least, which begins with its least
    item: among those of one length the first that is found.
    """
    # What leads to no ring, or is led to by none, is in none: most items, and so looked at but once.
    back = without_ends(turned(without_ends(steps)))
    forth = turned(back)
    best = None
    for start in sorted(list(forth)):
        found = ring_through(start, forth, back)
        if found is not None and (best is None or len(found) < len(best)):
            best = found
        if best is not None and len(best) == 2:
            return best
    return best


def least_order(ahead):
    """The list of items in which each is the least that can stand there, as far as one can stand there.

    ahead is a dict from items to lists of those that have to stand ahead of them.
    """
    placed = {}
    free = [item for item in ahead if not ahead[item]]
    while free:
        placed[min(free)] = True
        free = [item for item in ahead if item not in placed and all([other in placed for other in ahead[item]])]
    return list(placed)


def stand_in_order(items, ahead):
    """Whether all items of a list, none twice, stand behind those that have to stand ahead of them."""
    places = {item: at for at, item in enumerate(items)}
    return all([places[other] < places[item] for item in items for other in ahead[item]])
