"""The list that is handed in, taken apart into calls."""

from quarterprice.ranges import count_of_numbers, has_allocation


def split_calls(calls):
    """Each call as its own number and a list of what stands behind it, an allocation without its count."""
    found = []
    place = 0
    while place < len(calls):
        call = calls[place]
        behind = place + 1 + count_of_numbers(call)
        numbers = calls[place + 1:behind]
        if has_allocation(call):
            first = behind + 1
            behind = first + calls[behind]
            numbers = numbers + calls[first:behind]
        found.append((call, numbers))
        place = behind
    return found
