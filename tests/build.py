"""Catalogs for the tests, each made by a script."""

from leancatalog.catalogs import Catalog
from leancatalog.changes import run

CREATE = "create"


def made(script, catalog=None):
    """The Catalog after a list of statements."""
    return run(Catalog() if catalog is None else catalog, script)


# One item of each kind at least, and needs of each sort.
SHOP = [
    (CREATE, "schema", "app", ()),
    (CREATE, "schema", "old", ()),
    ("path", ("app", "old")),
    (CREATE, "function", "tax", (("int",), "int", ("add", ("param", 0), ("int", 1)))),
    (CREATE, "function", "small", (("int",), "truth", ("less", ("call", "tax", (("param", 0),)), ("int", 9)))),
    (CREATE, "function", "self", (
        ("int", "text"), "text", ("call", ("app", "self"), (("param", 0), ("join", ("param", 1), ("param", 1)))),
    )),
    (CREATE, "domain", "money", ("int", ("call", "small", (("value",),)))),
    (CREATE, "domain", ("old", "word"), ("text", None)),
    (CREATE, "sequence", "ids", (None,)),
    (CREATE, "table", "orders", ()),
    (CREATE, "column", ("orders", "id"), ("int", None)),
    (CREATE, "column", ("orders", "net"), ("money", None)),
    (CREATE, "column", ("orders", "who"), ("word", None)),
    (CREATE, "column", ("orders", "gross"), ("int", ("add", ("column", "net"), ("call", "tax", (("column", "id"),))))),
    (CREATE, "sequence", "owned", (("orders", "id"),)),
    (CREATE, "default", ("orders", "id"), (("add", ("next", "owned"), ("next", "ids")),)),
    (CREATE, "check", ("orders", "cheap"), (("and",
        ("call", "small", (("column", "gross"),)), ("less", ("column", "net"), ("column", "gross")),
    ),)),
    (CREATE, "trigger", ("orders", "told"), ("update", ("alike", ("column", "who"), ("text", "ann")))),
    (CREATE, "index", "bynet", ("orders", (("column", "net"), ("call", "small", (("column", "id"),))))),
    (CREATE, "view", "nets", (2, ("z", "a"), (
        ((("o", "orders"),), ((("of", "o", "who"), ("text", "ann")),), (("of", "o", "net"), ("text", "x"))),
        ((("o", "orders"), ("p", "orders")), (), (("int", 1), ("of", "p", "who"))),
    ))),
    (CREATE, "view", ("old", "tops"), (3, ("n",), (
        ((("v", "nets"), ("o", "orders")), ((("of", "v", "z"), ("of", "o", "gross")),), (("of", "v", "a"),)),
    ))),
]

APP, OLD = ("schema", "app"), ("schema", "old")
ORDERS = ("table", "app", "orders")
ID, NET, WHO, GROSS = [("column", "app", "orders", name) for name in ("id", "net", "who", "gross")]
TAX, SMALL, SELF = [("function", "app", name) for name in ("tax", "small", "self")]
MONEY, WORD = ("domain", "app", "money"), ("domain", "old", "word")
IDS, OWNED = ("sequence", "app", "ids"), ("sequence", "app", "owned")
START = ("default", "app", "orders", "id")
CHEAP = ("check", "app", "orders", "cheap")
TOLD = ("trigger", "app", "orders", "told")
BYNET = ("index", "app", "bynet")
NETS, TOPS = ("view", "app", "nets"), ("view", "old", "tops")
NONE = ("table", "app", "none")

INT_TO_INT, INT_TO_TRUTH = (("int",), "int"), (("int",), "truth")

# What each of these items needs, in the order of [40].
NEEDS = {
    APP: [],
    OLD: [],
    TAX: [(APP, None, None, "hard")],
    SMALL: [(TAX, None, INT_TO_INT, "hard"), (APP, None, None, "hard")],
    SELF: [(SELF, None, (("int", "text"), "text"), "hard"), (APP, None, None, "hard")],
    MONEY: [(SMALL, None, INT_TO_TRUTH, "hard"), (APP, None, None, "hard")],
    WORD: [(OLD, None, None, "hard")],
    IDS: [(APP, None, None, "hard")],
    OWNED: [(ID, None, None, "owned"), (APP, None, None, "hard")],
    ORDERS: [(APP, None, None, "hard")],
    ID: [(ORDERS, None, None, "owned")],
    NET: [(MONEY, None, "int", "hard"), (ORDERS, None, None, "owned")],
    WHO: [(WORD, None, "text", "hard"), (ORDERS, None, None, "owned")],
    GROSS: [
        (ID, "plain", "int", "hard"), (NET, "plain", "int", "hard"), (TAX, None, INT_TO_INT, "hard"),
        (ORDERS, None, None, "owned"),
    ],
    START: [(ID, None, "int", "owned"), (IDS, None, None, "hard"), (OWNED, None, None, "hard")],
    CHEAP: [
        (GROSS, None, "int", "soft"), (NET, None, "int", "soft"), (SMALL, None, INT_TO_TRUTH, "hard"),
        (ORDERS, None, None, "owned"),
    ],
    TOLD: [(WHO, None, "text", "soft"), (ORDERS, None, None, "owned")],
    BYNET: [
        (ID, None, "int", "soft"), (NET, None, "int", "soft"), (SMALL, None, INT_TO_TRUTH, "hard"),
        (APP, None, None, "hard"), (ORDERS, None, None, "owned"),
    ],
    NETS: [
        (NET, None, "int", "hard"), (WHO, None, "text", "hard"), (APP, None, None, "hard"),
        (ORDERS, None, None, "hard"),
    ],
    TOPS: [
        (GROSS, None, "int", "hard"), (OLD, None, None, "hard"), (ORDERS, None, None, "hard"),
        (NETS, None, ("below", 3), "hard"), (NETS, "a", "text", "hard"), (NETS, "z", "int", "hard"),
    ],
}

THERE = [(None, None)]

# What each of them offers.
OFFERS = {
    APP: THERE, OLD: THERE, IDS: THERE, OWNED: THERE, ORDERS: THERE, START: THERE, CHEAP: THERE, TOLD: THERE,
    BYNET: THERE,
    TAX: [(None, INT_TO_INT)],
    SMALL: [(None, INT_TO_TRUTH)],
    SELF: [(None, (("int", "text"), "text"))],
    MONEY: [(None, "int")],
    WORD: [(None, "text")],
    ID: [(None, "int"), ("plain", "int")],
    NET: [(None, "int"), ("plain", "int")],
    WHO: [(None, "text"), ("plain", "text")],
    GROSS: [(None, "int")],
    NETS: [(None, 2), ("a", "text"), ("z", "int")],
    TOPS: [(None, 3), ("n", "text")],
}


def shop():
    """A new Catalog of these items."""
    return made(SHOP)
