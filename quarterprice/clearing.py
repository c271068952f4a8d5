"""Supply and demand, the prices that support, and how the volume is shared out."""


def supply_at(orders, p):
    return sum([order.ready_at(p) for order in orders if order.sells])


def demand_at(orders, p):
    return sum([order.ready_at(p) for order in orders if not order.sells])


def least_where(low, high, holds):
    """The least price at which it holds, if it holds from some price on up to high."""
    while low < high:
        middle = (low + high) // 2
        if holds(middle):
            high = middle
        else:
            low = middle + 1
    return low


def greatest_where(low, high, holds):
    """The greatest price at which it holds, if it holds from low on up to some price."""
    while low < high:
        # Rounded up, so that a stretch of two still gets shorter.
        middle = (low + high + 1) // 2
        if holds(middle):
            low = middle
        else:
            high = middle - 1
    return low


def least_support(session):
    """The least price from bound to bound that supports."""
    # Supply never falls and demand never rises with the price. So D(p + 1) <= S(p)
    # holds from some price on, at the upper bound at the latest, and halving finds
    # where. One below it D(p + 1) > S(p), so the other condition holds here too.
    orders = session.orders
    return least_where(session.lowest, session.highest, lambda p: demand_at(orders, p + 1) <= supply_at(orders, p))


def greatest_support(session):
    """The greatest price from bound to bound that supports."""
    # The same, mirrored: S(p - 1) <= D(p) holds from the lower bound up to here.
    orders = session.orders
    return greatest_where(session.lowest, session.highest, lambda p: supply_at(orders, p - 1) <= demand_at(orders, p))


def clearing_price(session):
    return (least_support(session) + greatest_support(session)) // 2


def volume_at(orders, p):
    return min(supply_at(orders, p), demand_at(orders, p))


def price_for_supply(session, volume):
    """The least price from bound to bound at which supply is the volume or more, or None."""
    orders = session.orders
    if supply_at(orders, session.highest) < volume:
        return None
    return least_where(session.lowest, session.highest, lambda p: supply_at(orders, p) >= volume)


def price_for_demand(session, volume):
    """The greatest price from bound to bound at which demand is the volume or more, or None."""
    orders = session.orders
    if demand_at(orders, session.lowest) < volume:
        return None
    return greatest_where(session.lowest, session.highest, lambda p: demand_at(orders, p) >= volume)


def shares_by_number(orders, p):
    """How much each order gets at the price p, under its number."""
    volume = volume_at(orders, p)
    shares = {}
    for sells in (True, False):
        side = [order for order in orders if order.sells == sells]
        for order, share in zip(side, side_shares(side, p, volume)):
            shares[order.number] = share
    return shares


def shares_in_order(session):
    """How much each order gets at the price, in order of entry."""
    shares = shares_by_number(session.orders, clearing_price(session))
    return [shares[order.number] for order in session.orders]


def side_shares(side, p, volume):
    """How much each order of one side gets of the volume, in order of entry."""
    sure = [order.sure_at(p) for order in side]
    at_money = [order.ready_at(p) - order.sure_at(p) for order in side]
    whole = sum(at_money)
    if whole == 0:
        return sure
    rest = volume - sum(sure)
    shares = [first + rest * part // whole for first, part in zip(sure, at_money)]
    remainders = [rest * part % whole for part in at_money]
    missing = volume - sum(shares)
    for place in greatest_first(remainders)[:missing]:
        shares[place] += 1
    return shares


def greatest_first(remainders):
    """The places of the remainders, the greatest remainder's first."""
    # Sorting leaves equal ones as they stand, so the earlier order comes first.
    return sorted(range(len(remainders)), key=lambda place: remainders[place], reverse=True)
