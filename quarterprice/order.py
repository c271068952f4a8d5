"""An order of the book: what it is ready for at a price, and what its units are worth."""

from quarterprice.sums import sum_of_quotients_up


class Order:
    """An order that sells or buys up to an amount between two limits."""

    def __init__(self, number, sells, p0, p1, amount):
        self.number = number
        self.sells = sells
        self.p0 = p0
        self.p1 = p1
        self.amount = amount

    def ready_at(self, p):
        """How much the order is ready for at the price p."""
        if self.sells:
            return self.ready_to_sell(p)
        return self.ready_to_buy(p)

    def ready_to_sell(self, p):
        # p1 is asked first: where both limits are alike, that price itself gives all.
        if p >= self.p1:
            return self.amount
        if p <= self.p0:
            return 0
        return self.amount * (p - self.p0) // (self.p1 - self.p0)

    def ready_to_buy(self, p):
        # p0 is asked first, for the same reason.
        if p <= self.p0:
            return self.amount
        if p >= self.p1:
            return 0
        return self.amount * (self.p1 - p) // (self.p1 - self.p0)

    def sure_at(self, p):
        """How much the order would take even at the next worse price."""
        if self.sells:
            return self.ready_to_sell(p - 1)
        return self.ready_to_buy(p + 1)

    def worth_of(self, units):
        """What that many units are worth to the order."""
        # Ready for k or more means amount * way >= k * (p1 - p0), with way the distance from
        # p0 if it sells, from p1 if it buys. So the k-th unit's limit lies k * (p1 - p0) / amount,
        # rounded up, away from there; where both limits are alike, that's no way at all.
        ways = sum_of_quotients_up(units, self.p1 - self.p0, self.amount)
        if self.sells:
            return -(self.p0 * units + ways)
        return self.p1 * units - ways

    def gain_of(self, units, p):
        """What the order gains by that many units at the price p."""
        if self.sells:
            return self.worth_of(units) + p * units
        return self.worth_of(units) - p * units

    def turn_over(self):
        """Let the order do the opposite at prices with the sign turned."""
        before = self.p0
        self.sells = not self.sells
        self.p0 = -self.p1
        self.p1 = -before

    def shift_by(self, d):
        self.p0 += d
        self.p1 += d
