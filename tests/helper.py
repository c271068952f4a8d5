"""Calls by their names, and answers split call by call."""

from quarterprice.zone import answers

NUMBERS = {
    "open": 0, "sell": 1, "buy": 2, "cancel": 3, "cut": 4, "move": 5,
    "supply": 6, "demand": 7, "range": 8, "clear": 9, "shares": 10, "share": 11,
}


def flat(calls):
    """One list of whole numbers from calls such as ("open", 0, 9)."""
    numbers = []
    for call in calls:
        numbers.append(NUMBERS[call[0]])
        numbers.extend(call[1:])
    return numbers


def split(given):
    """The answers call by call; fails where the counts don't come out."""
    parts = []
    place = 0
    while place < len(given):
        count = given[place]
        if count < 1 or place + 1 + count > len(given):
            raise AssertionError(f"a count of {count} at place {place} of {given}")
        parts.append(given[place + 1:place + 1 + count])
        place += 1 + count
    return parts


def ask(*calls):
    """The answer to each of the calls, on a new object."""
    parts = split(answers(flat(calls)))
    if len(parts) != len(calls):
        raise AssertionError(f"{len(calls)} calls, {len(parts)} answers")
    return parts


def last(*calls):
    """The answer to the last of the calls."""
    return ask(*calls)[-1]
