"""Orders for bundles, and rounds of orders."""

from lateledger.errors import InvalidBundle, InvalidHouse, InvalidLimit, InvalidMost, InvalidName, InvalidOrder
from lateledger.errors import InvalidOrders, NameTaken, TooMany, UnknownOrder
from lateledger.words import is_among, is_bundle, is_count, is_integer, is_list, is_name

MOST_ORDERS = 12
MOST_GOODS = 4


def told_bundle(bundle):
    """A bundle as it is told: its goods sorted, without those of 0."""
    return {good: bundle[good] for good in sorted(bundle) if bundle[good] != 0}


class Order:
    """What a house buys or sells at most, and how much it pays for one bundle at most. It never changes."""

    def __init__(self, house, bundle, limit, most):
        if not is_name(house):
            raise InvalidHouse(house)
        if not is_bundle(bundle):
            raise InvalidBundle(bundle)
        if not is_integer(limit):
            raise InvalidLimit(limit)
        if not is_count(most):
            raise InvalidMost(most)
        self._house = house
        self._bundle = told_bundle(bundle)
        self._limit = limit
        self._most = most

    @property
    def house(self):
        """The house whose order it is."""
        return self._house

    @property
    def limit(self):
        """How many coins the house pays for one bundle at most; below 0: it gets at least so many."""
        return self._limit

    @property
    def most(self):
        """How many bundles the house takes at most."""
        return self._most

    def bundle(self):
        """The dict from the goods to how many of each are bought, below 0: sold."""
        return {good: number for good, number in self._bundle.items()}

    def __eq__(self, other):
        if not isinstance(other, Order):
            return False
        if self._house != other._house or self._bundle != other._bundle:
            return False
        return self._limit == other._limit and self._most == other._most

    def __repr__(self):
        return f"Order({self._house!r}, {self._bundle!r}, {self._limit}, {self._most})"


def goods_of(orders):
    """The sorted list of the goods that some of the orders, a dict, have with a number other than 0."""
    return sorted({good for order in list(orders.values()) for good in order.bundle()})


def _check_orders(orders):
    if not isinstance(orders, dict) or not all([is_name(name) for name in orders]):
        raise InvalidOrders(None)
    for name in sorted(orders):
        if not isinstance(orders[name], Order):
            raise InvalidOrders(name)
    if len(orders) > MOST_ORDERS:
        raise TooMany("orders", MOST_ORDERS)
    if len(goods_of(orders)) > MOST_GOODS:
        raise TooMany("goods", MOST_GOODS)


class Round:
    """None to twelve orders by NAMES, of at most four goods. It never changes."""

    def __init__(self, orders):
        _check_orders(orders)
        self._orders = {name: orders[name] for name in sorted(orders)}

    def orders(self):
        """The dict from the names to the orders."""
        return {name: order for name, order in self._orders.items()}

    def goods(self):
        """The sorted list of the goods of the round."""
        return goods_of(self._orders)

    def with_order(self, name, order):
        """The Round with one order more."""
        if not is_name(name):
            raise InvalidName(name)
        if not isinstance(order, Order):
            raise InvalidOrder(order)
        if name in self._orders:
            raise NameTaken(name)
        orders = self.orders()
        orders[name] = order
        return Round(orders)

    def without(self, names):
        """The Round without the orders with these names."""
        if not is_list(names):
            raise UnknownOrder(names)
        for name in names:
            if name not in self:
                raise UnknownOrder(name)
        return Round({name: order for name, order in self._orders.items() if name not in names})

    def of_house(self, house):
        """The sorted list of the names of a house's orders."""
        if not is_name(house):
            raise InvalidHouse(house)
        return [name for name, order in self._orders.items() if order.house == house]

    def __contains__(self, value):
        return is_among(self._orders, value)

    def __len__(self):
        return len(self._orders)

    def __getitem__(self, name):
        if name not in self:
            raise UnknownOrder(name)
        return self._orders[name]

    def __iter__(self):
        raise TypeError("a round is not iterated over")

    def __eq__(self, other):
        return isinstance(other, Round) and self._orders == other._orders

    def __repr__(self):
        return f"Round({self._orders!r})"
