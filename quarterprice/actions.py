"""What each call does in an open session, and what it answers or refuses."""

from quarterprice.clearing import clearing_price, demand_at, greatest_support, least_support, price_for_demand
from quarterprice.clearing import price_for_supply, shares_by_number, shares_in_order, supply_at, volume_at
from quarterprice.ranges import is_price
from quarterprice.welfare import gains_when_ready, is_good, is_outcome, surplus_of, welfare_of
from quarterprice.welfare import welfare_through, worth_of_all

SELLING = 0
BUYING = 1
ACCEPTED = 0
FIRST_REFUSAL = -3
SECOND_REFUSAL = -4


def sell(session, numbers):
    return enter(session, True, numbers)


def buy(session, numbers):
    return enter(session, False, numbers)


def enter(session, sells, numbers):
    if not session.has_within(numbers[0], numbers[1]):
        return [FIRST_REFUSAL]
    if session.is_full():
        return [SECOND_REFUSAL]
    return [ACCEPTED, session.enter(sells, numbers[0], numbers[1], numbers[2])]


def cancel(session, numbers):
    order = session.order_with(numbers[0])
    if order is None:
        return [FIRST_REFUSAL]
    session.take_out(order)
    return [ACCEPTED, order.amount]


def cut(session, numbers):
    order = session.order_with(numbers[0])
    if order is None:
        return [FIRST_REFUSAL]
    less = order.amount - numbers[1]
    if less <= 0:
        return [SECOND_REFUSAL]
    order.amount = numbers[1]
    return [ACCEPTED, less]


def move(session, numbers):
    order = session.order_with(numbers[0])
    if order is None:
        return [FIRST_REFUSAL]
    if not session.has_within(numbers[1], numbers[2]):
        return [SECOND_REFUSAL]
    order.p0 = numbers[1]
    order.p1 = numbers[2]
    session.put_last(order)
    return [ACCEPTED]


def supply(session, numbers):
    return [ACCEPTED, supply_at(session.orders, numbers[0])]


def demand(session, numbers):
    return [ACCEPTED, demand_at(session.orders, numbers[0])]


def support(session, numbers):
    return [ACCEPTED, least_support(session), greatest_support(session)]


def clear(session, numbers):
    p = clearing_price(session)
    return [ACCEPTED, p, volume_at(session.orders, p)]


def shares(session, numbers):
    return [ACCEPTED] + shares_in_order(session)


def share(session, numbers):
    order = session.order_with(numbers[0])
    if order is None:
        return [FIRST_REFUSAL]
    return [ACCEPTED, shares_by_number(session.orders, clearing_price(session))[order.number]]


def surplus(session, numbers):
    order = session.order_with(numbers[0])
    if order is None:
        return [FIRST_REFUSAL]
    return [ACCEPTED, surplus_of(session, order)]


def welfare(session, numbers):
    return [ACCEPTED, welfare_of(session)]


def gain(session, numbers):
    order = session.order_with(numbers[0])
    if order is None:
        return [FIRST_REFUSAL]
    return [ACCEPTED, welfare_through(session, order)]


def ladder(session, numbers):
    # Sorting leaves orders of the same merit as they stand, so in order of entry.
    if numbers[0] == SELLING:
        side = [order for order in session.orders if order.sells]
        by_merit = sorted(side, key=lambda order: (order.p0, order.p1))
    else:
        side = [order for order in session.orders if not order.sells]
        by_merit = sorted(side, key=lambda order: (-order.p1, -order.p0))
    return [ACCEPTED] + [order.number for order in by_merit]


def price_for(session, numbers):
    if numbers[0] == SELLING:
        p = price_for_supply(session, numbers[1])
    else:
        p = price_for_demand(session, numbers[1])
    if p is None:
        return [FIRST_REFUSAL]
    return [ACCEPTED, p]


def check(session, numbers):
    amounts = numbers[1:]
    if len(amounts) != len(session.orders):
        return [FIRST_REFUSAL]
    return [ACCEPTED, 1 if is_outcome(session, numbers[0], amounts) else 0]


def worth(session, numbers):
    if len(numbers) != len(session.orders):
        return [FIRST_REFUSAL]
    if not is_good(session.orders, numbers):
        return [SECOND_REFUSAL]
    return [ACCEPTED, worth_of_all(session.orders, numbers)]


def dual(session, numbers):
    return [ACCEPTED, gains_when_ready(session.orders, numbers[0])]


def book(session, numbers):
    told = [ACCEPTED, session.lowest, session.highest]
    for order in session.orders:
        side = SELLING if order.sells else BUYING
        told.extend([order.number, side, order.p0, order.p1, order.amount])
    return told


def mirror(session, numbers):
    session.turn_over()
    return [ACCEPTED]


def shift(session, numbers):
    d = numbers[0]
    if not is_price(session.lowest + d) or not is_price(session.highest + d):
        return [FIRST_REFUSAL]
    session.shift_by(d)
    return [ACCEPTED]


ACTIONS = {
    1: sell,
    2: buy,
    3: cancel,
    4: cut,
    5: move,
    6: supply,
    7: demand,
    8: support,
    9: clear,
    10: shares,
    11: share,
    12: surplus,
    13: welfare,
    14: gain,
    15: ladder,
    16: price_for,
    17: check,
    18: worth,
    19: dual,
    20: book,
    21: mirror,
    22: shift,
}


def carry_out(call, session, numbers):
    """Do what the call asks in the session and give back its answer."""
    action = ACTIONS[call]
    return action(session, numbers)
