"""How many numbers each call has, and the ranges they are told to lie in."""

LEAST_PRICE = -1000000
MOST_PRICE = 1000000
MOST_APART = 10000
MOST_AMOUNT = 1000000000
MOST_AMOUNTS = 64
MOST_VOLUME = 64000000000
MOST_SHIFT = 2000000
LEAST_NUMBER = -1000000000000000000
MOST_NUMBER = 1000000000000000000


def is_price(p):
    return LEAST_PRICE <= p <= MOST_PRICE


def is_amount(q):
    return 1 <= q <= MOST_AMOUNT


def is_number(n):
    return LEAST_NUMBER <= n <= MOST_NUMBER


def is_side(side):
    return 0 <= side <= 1


def are_bounds(numbers):
    return is_price(numbers[0]) and is_price(numbers[1]) and numbers[0] <= numbers[1]


def are_limits(numbers):
    return are_bounds(numbers) and numbers[1] - numbers[0] <= MOST_APART


def is_allocation(numbers):
    return len(numbers) <= MOST_AMOUNTS and all([0 <= number <= MOST_AMOUNT for number in numbers])


def fits_order(numbers):
    return are_limits(numbers[:2]) and is_amount(numbers[2])


def fits_cut(numbers):
    return is_number(numbers[0]) and is_amount(numbers[1])


def fits_move(numbers):
    return is_number(numbers[0]) and are_limits(numbers[1:])


def fits_number(numbers):
    return is_number(numbers[0])


def fits_price(numbers):
    return is_price(numbers[0])


def fits_side(numbers):
    return is_side(numbers[0])


def fits_price_for(numbers):
    return is_side(numbers[0]) and 1 <= numbers[1] <= MOST_VOLUME


def fits_check(numbers):
    return is_price(numbers[0]) and is_allocation(numbers[1:])


def fits_shift(numbers):
    return -MOST_SHIFT <= numbers[0] <= MOST_SHIFT


def fits_nothing(numbers):
    return len(numbers) == 0


# How many numbers there are ahead of an allocation, whether there is one, and what they must be like.
CALLS = {
    0: (2, False, are_bounds),
    1: (3, False, fits_order),
    2: (3, False, fits_order),
    3: (1, False, fits_number),
    4: (2, False, fits_cut),
    5: (3, False, fits_move),
    6: (1, False, fits_price),
    7: (1, False, fits_price),
    8: (0, False, fits_nothing),
    9: (0, False, fits_nothing),
    10: (0, False, fits_nothing),
    11: (1, False, fits_number),
    12: (1, False, fits_number),
    13: (0, False, fits_nothing),
    14: (1, False, fits_number),
    15: (1, False, fits_side),
    16: (2, False, fits_price_for),
    17: (1, True, fits_check),
    18: (0, True, is_allocation),
    19: (1, False, fits_price),
    20: (0, False, fits_nothing),
    21: (0, False, fits_nothing),
    22: (1, False, fits_shift),
}


def count_of_numbers(call):
    """How many numbers stand behind the call's own number, ahead of an allocation."""
    return CALLS[call][0]


def has_allocation(call):
    return CALLS[call][1]


def are_in_range(call, numbers):
    """Whether each of the call's numbers lies in the range told for it."""
    fits = CALLS[call][2]
    return fits(numbers)
