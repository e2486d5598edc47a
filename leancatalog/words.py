"""Integers, names, refs and addresses, where an item lies, and the order of what items need and offer."""

KINDS = (
    "schema",
    "domain",
    "sequence",
    "table",
    "view",
    "function",
    "index",
    "column",
    "default",
    "check",
    "trigger",
)

LONGEST_NAME = 8

# How many names stand behind the kind in an address.
NAMES = {
    "schema": 1,
    "domain": 2,
    "sequence": 2,
    "table": 2,
    "view": 2,
    "function": 2,
    "index": 2,
    "column": 3,
    "default": 3,
    "check": 3,
    "trigger": 3,
}

RELATIONS = ("table", "view", "sequence", "index")


def is_integer(thing):
    """Whether thing is an integer, with any number of digits."""
    return isinstance(thing, int) and not isinstance(thing, bool)


def is_name(thing):
    """Whether thing is a string of one to eight lowercase letters a to z."""
    if not isinstance(thing, str) or len(thing) > LONGEST_NAME:
        return False
    return thing.isascii() and thing.isalpha() and thing.islower()


def is_tuple(thing, least, most):
    """Whether thing is a tuple with no fewer parts than least and no more than most."""
    return isinstance(thing, tuple) and least <= len(thing) <= most


def is_ref(thing):
    """Whether thing is a name, or a tuple of a schema's name and a name."""
    return is_name(thing) or (is_tuple(thing, 2, 2) and is_name(thing[0]) and is_name(thing[1]))


def is_address(thing):
    """Whether thing is the address of an item of one of the kinds, be it there or not."""
    # A part of thing that is no string may be no key, so it is not looked up.
    if not is_tuple(thing, 2, 4) or not isinstance(thing[0], str) or thing[0] not in NAMES:
        return False
    names = thing[1:]
    return len(names) == NAMES[thing[0]] and all([is_name(name) for name in names])


def space_of(address):
    """The space in which the name of the item stands only once."""
    if address[0] in RELATIONS:
        return ("relation", address[1])
    return address[:-1]


def parent_of(address):
    """The address of the item in which this one lies, None of a schema."""
    kind = address[0]
    if kind == "schema":
        return None
    if kind == "default":
        return ("column",) + address[1:]
    if NAMES[kind] == 3:
        return ("table",) + address[1:3]
    return ("schema", address[1])


def namesakes(address):
    """The addresses that have the own name of this one in its space, itself among them, in ascending order."""
    if address[0] in RELATIONS:
        return [(kind,) + address[1:] for kind in sorted(list(RELATIONS))]
    return [address]


def rank(thing):
    """The key by which None comes ahead of all, integers ahead of strings, strings ahead of tuples."""
    if thing is None:
        return (0,)
    if isinstance(thing, tuple):
        return (3, tuple([rank(part) for part in thing]))
    return (1 if is_integer(thing) else 2, thing)


def is_same(thing, value):
    """Whether thing, any value, is this value of tuples, strings, integers and None, each part of the same kind."""
    if isinstance(value, tuple):
        if not is_tuple(thing, len(value), len(value)):
            return False
        return all([is_same(part, own) for part, own in zip(thing, value)])
    if value is None:
        return thing is None
    if isinstance(value, str):
        return isinstance(thing, str) and thing == value
    return is_integer(thing) and thing == value
