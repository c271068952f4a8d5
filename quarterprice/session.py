"""A session: its bounds and its book, in order of entry."""

from quarterprice.order import Order

MOST_ORDERS = 64


class Session:
    """Two bounds and a book that is empty at first."""

    def __init__(self, lowest, highest):
        self.lowest = lowest
        self.highest = highest
        self.orders = []
        self.last_number = 0

    def has_within(self, p0, p1):
        return self.lowest <= p0 and p1 <= self.highest

    def is_full(self):
        return len(self.orders) >= MOST_ORDERS

    def enter(self, sells, p0, p1, amount):
        """Put a new order behind all others and give back its number."""
        # Counted apart from the book, so that a cancelled order's number is not given again.
        self.last_number += 1
        self.orders.append(Order(self.last_number, sells, p0, p1, amount))
        return self.last_number

    def order_with(self, number):
        """The order of the book with that number, or None."""
        for order in self.orders:
            if order.number == number:
                return order
        return None

    def others_than(self, order):
        return [other for other in self.orders if other.number != order.number]

    def take_out(self, order):
        self.orders = self.others_than(order)

    def put_last(self, order):
        """Let an order of the book stand behind all others."""
        self.take_out(order)
        self.orders.append(order)

    def without(self, order):
        """A session with the same bounds and all orders but that one, to be read only."""
        rest = Session(self.lowest, self.highest)
        rest.orders = self.others_than(order)
        return rest

    def turn_over(self):
        """Turn the sign of all prices, so that who sold buys and who bought sells."""
        before = self.lowest
        self.lowest = -self.highest
        self.highest = -before
        for order in self.orders:
            order.turn_over()

    def shift_by(self, d):
        """Let the bounds and all limits become more by d."""
        self.lowest += d
        self.highest += d
        for order in self.orders:
            order.shift_by(d)
