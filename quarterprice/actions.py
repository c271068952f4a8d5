"""What each call does in an open session, and what it answers or refuses."""

from quarterprice.clearing import clearing_price, demand_at, greatest_support, least_support
from quarterprice.clearing import shares_by_number, supply_at, volume_at

ACCEPTED = 0
FIRST_REFUSAL = -3
SECOND_REFUSAL = -4


def sell(session, numbers):
    return enter(session, True, numbers)


def buy(session, numbers):
    return enter(session, False, numbers)


def enter(session, sells, numbers):
    if not session.has_within(numbers[0], numbers[1]):
        return [FIRST_REFUSAL]
    if session.is_full():
        return [SECOND_REFUSAL]
    return [ACCEPTED, session.enter(sells, numbers[0], numbers[1], numbers[2])]


def cancel(session, numbers):
    order = session.order_with(numbers[0])
    if order is None:
        return [FIRST_REFUSAL]
    session.take_out(order)
    return [ACCEPTED, order.amount]


def cut(session, numbers):
    order = session.order_with(numbers[0])
    if order is None:
        return [FIRST_REFUSAL]
    less = order.amount - numbers[1]
    if less <= 0:
        return [SECOND_REFUSAL]
    order.amount = numbers[1]
    return [ACCEPTED, less]


def move(session, numbers):
    order = session.order_with(numbers[0])
    if order is None:
        return [FIRST_REFUSAL]
    if not session.has_within(numbers[1], numbers[2]):
        return [SECOND_REFUSAL]
    order.p0 = numbers[1]
    order.p1 = numbers[2]
    session.put_last(order)
    return [ACCEPTED]


def supply(session, numbers):
    return [ACCEPTED, supply_at(session.orders, numbers[0])]


def demand(session, numbers):
    return [ACCEPTED, demand_at(session.orders, numbers[0])]


def support(session, numbers):
    return [ACCEPTED, least_support(session), greatest_support(session)]


def clear(session, numbers):
    p = clearing_price(session)
    return [ACCEPTED, p, volume_at(session.orders, p)]


def shares(session, numbers):
    given = shares_by_number(session)
    return [ACCEPTED] + [given[order.number] for order in session.orders]


def share(session, numbers):
    order = session.order_with(numbers[0])
    if order is None:
        return [FIRST_REFUSAL]
    return [ACCEPTED, shares_by_number(session)[order.number]]


ACTIONS = {
    1: sell,
    2: buy,
    3: cancel,
    4: cut,
    5: move,
    6: supply,
    7: demand,
    8: support,
    9: clear,
    10: shares,
    11: share,
}


def carry_out(call, session, numbers):
    """Do what the call asks in the session and give back its answer."""
    action = ACTIONS[call]
    return action(session, numbers)
