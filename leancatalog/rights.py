"""Rights of the items of a catalog, which roles grant onward to one another."""

from leancatalog.catalogs import Catalog, addresses_by_identity, identities_of
from leancatalog.definitions import is_word
from leancatalog.errors import Hung, Misfit, NoGrant, NoItem, NoRight, NoRole, TooMany, Wrong
from leancatalog.graphs import distances, least_way, reached
from leancatalog.words import is_address, is_name

MOST_ROLES = 12
MOST_GRANTS = 60
WORDS = ("make", "use", "read", "write")

# The rights that items of a kind have; other kinds have none.
RIGHTS = {
    "schema": ("make", "use"),
    "table": ("read", "write"),
    "view": ("read", "write"),
    "domain": ("use",),
    "sequence": ("use",),
    "function": ("use",),
}


def are_roles(thing):
    """Whether thing is a list of 1 to 12 different names."""
    if not isinstance(thing, list) or not 1 <= len(thing) <= MOST_ROLES:
        return False
    return all([is_name(role) for role in thing]) and len(set(thing)) == len(thing)


def must_be_grant(giver, taker, address, right):
    """Refuses the first of these arguments that is not as described."""
    if not is_name(giver):
        raise Wrong(0)
    if not is_name(taker) or taker == giver:
        raise Wrong(1)
    if not is_address(address):
        raise Wrong(2)
    if not is_word(right, WORDS):
        raise Wrong(3)


def owned_in(catalog, owner):
    """A dict from the addresses of the items that have rights to one owner of all."""
    return {address: owner for address in catalog.addresses() if address[0] in RIGHTS}


# The grants of one right of an item are a dict from (giver, taker) to whether the grant is onward.


def holders_onward(owner, grants):
    """The ascending list of the roles that hold a right onward by the grants of it."""
    pairs = [pair for pair in grants if grants[pair]]
    return reached(owner, lambda role: [taker for giver, taker in pairs if giver == role])


def fallen_from(owner, grants):
    """The list of (giver, taker) of those of the grants that do not stand."""
    holders = holders_onward(owner, grants)
    return [pair for pair in grants if pair[0] not in holders]


def least_chain(owner, role, grants):
    """The least of the shortest lists of roles from the owner to another one by grants of a right, or None."""
    # Only the last grant may be one that is not onward.
    pairs = [pair for pair in grants if grants[pair] or pair[1] == role]
    away = distances(role, lambda end: [giver for giver, taker in pairs if taker == end])
    if owner not in away:
        return None
    return least_way(owner, away, lambda end: [taker for giver, taker in pairs if giver == end])


class Rights:
    """The owners of the items of a Catalog, and the grants that stand."""

    def __init__(self, catalog, roles, owner):
        if not isinstance(catalog, Catalog):
            raise Wrong(0)
        if not are_roles(roles):
            raise Wrong(1)
        if not is_name(owner) or owner not in roles:
            raise Wrong(2)
        self._held = catalog
        self._roles = sorted(roles)
        self._owners = owned_in(catalog, owner)
        # A dict from (giver, taker, address, right) to whether the grant is onward.
        self._grants = {}

    def __len__(self):
        """The number of the grants."""
        return len(self._grants)

    def roles(self):
        """The roles in ascending order."""
        return list(self._roles)

    def grants(self):
        """The grants in ascending order."""
        return sorted([key + (self._grants[key],) for key in self._grants])

    def owner(self, address):
        """The owner of an item that has rights."""
        if address not in self._owners:
            raise NoItem(address)
        return self._owners[address]

    def _must_have(self, roles, address, right):
        """Refuses the first of roles that is none, then an item without rights, then one without this right."""
        for role in roles:
            if role not in self._roles:
                raise NoRole(role)
        if address not in self._owners:
            raise NoItem(address)
        if right not in RIGHTS[address[0]]:
            raise Misfit(address)

    def _grants_of(self, address, right):
        """A dict from (giver, taker) to whether the grant is onward, for the grants of a right of an item."""
        return {key[:2]: self._grants[key] for key in self._grants if key[2:] == (address, right)}

    def holds(self, role, address, right):
        """Whether a role holds a right of an item."""
        return self.chain(role, address, right) is not None

    def holds_onward(self, role, address, right):
        """Whether a role holds a right of an item onward."""
        self._must_have([role], address, right)
        return role in holders_onward(self._owners[address], self._grants_of(address, right))

    def chain(self, role, address, right):
        """The first of the shortest lists of grants by which a right comes from the owner to a role, or None."""
        self._must_have([role], address, right)
        grants = self._grants_of(address, right)
        way = least_chain(self._owners[address], role, grants)
        if way is None:
            return None
        return [pair + (address, right, grants[pair]) for pair in zip(way, way[1:])]

    def cut(self, role, address, right):
        """The ascending list of the roles that hold a right onward, if a role does not hold it; otherwise None."""
        if self.holds(role, address, right):
            return None
        return holders_onward(self._owners[address], self._grants_of(address, right))

    def is_cut(self, role, address, right, thing):
        """Whether thing, any value, is a list of roles, the owner among them, that shows that a role has no right."""
        self._must_have([role], address, right)
        if not isinstance(thing, list) or not all([is_name(name) and name in self._roles for name in thing]):
            return False
        if thing != sorted(set(thing)) or self._owners[address] not in thing or role in thing:
            return False
        grants = self._grants_of(address, right)
        led_to = [pair[1] for pair in grants if pair[0] in thing and (grants[pair] or pair[1] == role)]
        return all([taker in thing for taker in led_to])

    def give(self, giver, taker, address, right, onward):
        """Adds a grant, or makes one onward."""
        must_be_grant(giver, taker, address, right)
        if not isinstance(onward, bool):
            raise Wrong(4)
        self._must_have([giver, taker], address, right)
        if not self.holds_onward(giver, address, right):
            raise NoRight(giver)
        key = (giver, taker, address, right)
        if key not in self._grants and len(self._grants) >= MOST_GRANTS:
            raise TooMany(MOST_GRANTS)
        self._grants[key] = onward or self._grants.get(key, False)

    def _must_be_there(self, giver, taker, address, right, way):
        """Refuses wrong arguments, and a grant that is not there."""
        must_be_grant(giver, taker, address, right)
        if not is_word(way, ("restrict", "cascade")):
            raise Wrong(4)
        self._must_have([giver, taker], address, right)
        if (giver, taker, address, right) not in self._grants:
            raise NoGrant(giver, taker)

    def _let_fall(self, address, right, left, way):
        """Keeps those of the grants left of a right that stand; the ascending list of the others, which are gone."""
        lost = fallen_from(self._owners[address], left)
        fallen = sorted([pair + (address, right, left[pair]) for pair in lost])
        if fallen and way == "restrict":
            raise Hung(fallen[0])
        kept = {key: self._grants[key] for key in self._grants if key[2:] != (address, right)}
        for pair in left:
            if pair not in lost:
                kept[pair + (address, right)] = left[pair]
        self._grants = kept
        return fallen

    def revoke(self, giver, taker, address, right, way):
        """Takes a grant away; the ascending list of the grants that are gone, this one included."""
        self._must_be_there(giver, taker, address, right, way)
        left = self._grants_of(address, right)
        onward = left.pop((giver, taker))
        return sorted(self._let_fall(address, right, left, way) + [(giver, taker, address, right, onward)])

    def revoke_onward(self, giver, taker, address, right, way):
        """Leaves a grant, but not onward; the ascending list of the grants that fell."""
        self._must_be_there(giver, taker, address, right, way)
        left = self._grants_of(address, right)
        if not left[(giver, taker)]:
            raise NoGrant(giver, taker)
        left[(giver, taker)] = False
        return self._let_fall(address, right, left, way)

    def follow(self, catalog, owner):
        """Goes over to another Catalog; the ascending list of the grants of items that are no longer there."""
        if not isinstance(catalog, Catalog):
            raise Wrong(0)
        if not is_name(owner):
            raise Wrong(1)
        if owner not in self._roles:
            raise NoRole(owner)
        identities = identities_of(self._held)
        now = addresses_by_identity(catalog)
        new = {item: now[identities[item]] for item in self._owners if identities[item] in now}
        gone = [grant for grant in self.grants() if grant[2] not in new]
        owners = owned_in(catalog, owner)
        for item in new:
            owners[new[item]] = self._owners[item]
        left = [key for key in self._grants if key[2] in new]
        self._grants = {key[:2] + (new[key[2]], key[3]): self._grants[key] for key in left}
        self._owners = owners
        self._held = catalog
        return gone
