"""An order of the book, and what it is ready for at a price."""


class Order:
    """An order that sells or buys up to an amount between two limits."""

    def __init__(self, number, sells, p0, p1, amount):
        self.number = number
        self.sells = sells
        self.p0 = p0
        self.p1 = p1
        self.amount = amount

    def ready_at(self, p):
        """How much the order is ready for at the price p."""
        if self.sells:
            return self.ready_to_sell(p)
        return self.ready_to_buy(p)

    def ready_to_sell(self, p):
        # p1 is asked first: where both limits are alike, that price itself gives all.
        if p >= self.p1:
            return self.amount
        if p <= self.p0:
            return 0
        return self.amount * (p - self.p0) // (self.p1 - self.p0)

    def ready_to_buy(self, p):
        # p0 is asked first, for the same reason.
        if p <= self.p0:
            return self.amount
        if p >= self.p1:
            return 0
        return self.amount * (self.p1 - p) // (self.p1 - self.p0)

    def sure_at(self, p):
        """How much the order would take even at the next worse price."""
        if self.sells:
            return self.ready_to_sell(p - 1)
        return self.ready_to_buy(p + 1)
