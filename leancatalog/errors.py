"""The errors of the package.

An error with arguments writes no message of its own: they may be any values, and some of these cannot be written.
Python shows the arguments where it shows the error.
"""


class CatalogError(ValueError):
    """What all errors of the package have in common."""


class Wrong(CatalogError):
    """The argument at this place is not as described."""

    def __init__(self, place):
        self.place = place


class NoName(CatalogError):
    """The name tells nothing in this space."""

    def __init__(self, space, name):
        self.space = space
        self.name = name


class NoItem(CatalogError):
    """There is no item at the address."""

    def __init__(self, address):
        self.address = address


class Taken(CatalogError):
    """The item at the address has the name already."""

    def __init__(self, address):
        self.address = address


class Needs(CatalogError):
    """The item at the address needs the other one, which is not there."""

    def __init__(self, address, other):
        self.address = address
        self.other = other


class Misfit(CatalogError):
    """What is told of the item at the address does not fit."""

    def __init__(self, address):
        self.address = address


class Hangs(CatalogError):
    """The other item hangs on the one at the address."""

    def __init__(self, address, other):
        self.address = address
        self.other = other


class TooMany(CatalogError):
    """There would be more than the limit."""

    def __init__(self, limit):
        self.limit = limit


class Stopped(CatalogError):
    """The one at this index is not as it has to be."""

    def __init__(self, at):
        self.at = at


class Ring(CatalogError):
    """The functions call one another in a ring."""

    def __init__(self, functions):
        self.functions = functions


class NoRole(CatalogError):
    """There is no such role."""

    def __init__(self, role):
        self.role = role


class NoRight(CatalogError):
    """The role does not hold the right onward."""

    def __init__(self, role):
        self.role = role


class NoGrant(CatalogError):
    """There is no such grant from the giver to the taker."""

    def __init__(self, giver, taker):
        self.giver = giver
        self.taker = taker


class Hung(CatalogError):
    """The grant would fall, too."""

    def __init__(self, grant):
        self.grant = grant


class Nothing(CatalogError):
    """There is nothing to undo, or to do again."""

    def __init__(self):
        CatalogError.__init__(self, "there is nothing to undo or to do again")


class NoStatement(CatalogError):
    """This is not a statement."""

    def __init__(self):
        CatalogError.__init__(self, "this is not a statement")


class NoText(CatalogError):
    """This is not a text that writes a value or a statement."""

    def __init__(self):
        CatalogError.__init__(self, "this is not a text of a value or a statement")
