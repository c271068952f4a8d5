"""Allocations: when they are good, what they are worth, and what an order adds to it."""

from quarterprice.clearing import clearing_price, shares_by_number, shares_in_order


def is_good(orders, amounts):
    """Whether the amounts, one for each order, lie within them and as much is sold as bought."""
    sold = 0
    bought = 0
    for order, amount in zip(orders, amounts):
        if not 0 <= amount <= order.amount:
            return False
        if order.sells:
            sold += amount
        else:
            bought += amount
    return sold == bought


def is_outcome(session, p, amounts):
    """Whether the amounts are a good allocation that the price p supports."""
    if not session.has_within(p, p) or not is_good(session.orders, amounts):
        return False
    return all([order.sure_at(p) <= amount <= order.ready_at(p) for order, amount in zip(session.orders, amounts)])


def worth_of_all(orders, amounts):
    """What the amounts, one for each order, are worth together."""
    return sum([order.worth_of(amount) for order, amount in zip(orders, amounts)])


def welfare_of(session):
    return worth_of_all(session.orders, shares_in_order(session))


def welfare_through(session, order):
    """How much more welfare there is than if the order weren't in the book."""
    return welfare_of(session) - welfare_of(session.without(order))


def surplus_of(session, order):
    """What the order gains by its share at the price."""
    p = clearing_price(session)
    return order.gain_of(shares_by_number(session.orders, p)[order.number], p)


def gains_when_ready(orders, p):
    """What all orders gain together if each gets what it's ready for at the price p."""
    return sum([order.gain_of(order.ready_at(p), p) for order in orders])
