"""Sums of many quotients, without going through them one by one."""


def sum_of_quotients(count, step, start, divisor):
    """The sum of (step * k + start) // divisor over k from 0 to count - 1."""
    # An order may have a thousand million units: too many to walk one by one. So the
    # whole parts of step and start are taken off at once. What's left counts the points
    # below a slanting line; counted by rows in the place of columns they are the same
    # sum with step and divisor changed over, which shrink as in Euclid's division.
    total = 0
    while count > 0:
        total += count * (count - 1) // 2 * (step // divisor) + count * (start // divisor)
        slope = step % divisor
        top = slope * count + start % divisor
        # Where the line stays below one divisor no row is left, also where the slope is 0.
        count = top // divisor
        start = top % divisor
        step = divisor
        divisor = slope
    return total


def sum_of_quotients_up(count, step, divisor):
    """The sum of step * k / divisor, each rounded up, over k from 1 to count."""
    return sum_of_quotients(count, step, step + divisor - 1, divisor)
