"""What the tests pass for a catalog, and for "any value"."""

from leancatalog.errors import NoItem


def need(address, how="hard", part=None, wanted=None):
    return (address, part, wanted, how)


def order_of(thing):
    """The key by which None comes ahead of all, strings ahead of tuples."""
    if thing is None:
        return (0,)
    if isinstance(thing, tuple):
        return (3, [order_of(part) for part in thing])
    return (1 if isinstance(thing, int) else 2, thing)


class Stub:
    """A catalog as [40] promises it, but with needs that are told. It counts nothing and checks nothing."""

    def __init__(self, needs):
        self._needs = {address: sorted(needs[address], key=order_of) for address in needs}

    def __contains__(self, address):
        return address in self._needs

    def __len__(self):
        return len(self._needs)

    def addresses(self):
        return sorted(self._needs)

    def needs(self, address):
        if address not in self._needs:
            raise NoItem(address)
        return list(self._needs[address])

    def leaners(self, address):
        if address not in self._needs:
            raise NoItem(address)
        return [
            other for other in self.addresses()
            if other != address and address in [told[0] for told in self._needs[other]]
        ]


def nested(depth):
    thing = ()
    for _ in range(depth):
        thing = (thing,)
    return thing


def deep_list(depth):
    thing = []
    for _ in range(depth):
        thing = [thing]
    return thing


class Odd:
    """A value that is equal to everything."""

    def __eq__(self, other):
        return True

    __hash__ = None


def all_sorts():
    """Values of every sort, deep and long ones among them, none of which is what any is_-function asks for."""
    return [
        None, True, False, (), [], {}, set(), frozenset(), b"", b"table", "", " ", "\n", "Table", object(), len, int,
        NotImplemented, ..., range(3), (None,), (True,), (0,), (1, 2, 3), ([],), ({},), (set(),), ([], [], []),
        (("table",), "app", "orders"), ({"table": 1}, "app", "orders"), (["table"], "app", "orders"),
        {"table": "app"}, {("table", "app", "orders"): ()}, nested(40), deep_list(40), (nested(39), nested(39)),
        [deep_list(38), 0], tuple(range(20000)), list(range(20000)), "a" * 20000, ("a" * 20000,), ("a",) * 19999,
        [("table", "app", "orders")] * 6000, {k: k for k in range(9999)},
    ]


def otherwise(thing):
    """The value with one part of it, at any depth, put as a value of another sort: none is equal in kind to thing."""
    yield Odd()
    if isinstance(thing, (tuple, list)):
        yield list(thing) if isinstance(thing, tuple) else tuple(thing)
        yield thing + type(thing)([None])
        for at, inner in enumerate(thing):
            for other in otherwise(inner):
                yield thing[:at] + type(thing)([other]) + thing[at + 1:]
    elif isinstance(thing, dict):
        yield list(thing.items())
        for key in thing:
            for other in otherwise(thing[key]):
                yield {**thing, key: other}
    elif isinstance(thing, int):
        yield str(thing)
        if thing in (0, 1):
            yield bool(thing)
    elif isinstance(thing, str):
        yield thing.encode()
        yield [thing]
        yield None
    else:
        yield ()
        yield 0
