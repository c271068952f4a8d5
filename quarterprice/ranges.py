"""How many numbers each call has, and the ranges they are told to lie in."""

LEAST_PRICE = -1000000
MOST_PRICE = 1000000
MOST_APART = 10000
MOST_AMOUNT = 1000000000
LEAST_NUMBER = -1000000000000000000
MOST_NUMBER = 1000000000000000000


def is_price(p):
    return LEAST_PRICE <= p <= MOST_PRICE


def is_amount(q):
    return 1 <= q <= MOST_AMOUNT


def is_number(n):
    return LEAST_NUMBER <= n <= MOST_NUMBER


def are_bounds(numbers):
    return is_price(numbers[0]) and is_price(numbers[1]) and numbers[0] <= numbers[1]


def are_limits(numbers):
    return are_bounds(numbers) and numbers[1] - numbers[0] <= MOST_APART


def fits_order(numbers):
    return are_limits(numbers[:2]) and is_amount(numbers[2])


def fits_cut(numbers):
    return is_number(numbers[0]) and is_amount(numbers[1])


def fits_move(numbers):
    return is_number(numbers[0]) and are_limits(numbers[1:])


def fits_number(numbers):
    return is_number(numbers[0])


def fits_price(numbers):
    return is_price(numbers[0])


def fits_nothing(numbers):
    return len(numbers) == 0


CALLS = {
    0: (2, are_bounds),
    1: (3, fits_order),
    2: (3, fits_order),
    3: (1, fits_number),
    4: (2, fits_cut),
    5: (3, fits_move),
    6: (1, fits_price),
    7: (1, fits_price),
    8: (0, fits_nothing),
    9: (0, fits_nothing),
    10: (0, fits_nothing),
    11: (1, fits_number),
}


def count_of_numbers(call):
    """How many numbers stand behind the call's own number."""
    return CALLS[call][0]


def are_in_range(call, numbers):
    """Whether each of the call's numbers lies in the range told for it."""
    fits = CALLS[call][1]
    return fits(numbers)
