"""Calls by their names, and answers split call by call."""

from quarterprice.zone import answers

NUMBERS = {
    "open": 0, "sell": 1, "buy": 2, "cancel": 3, "cut": 4, "move": 5,
    "supply": 6, "demand": 7, "range": 8, "clear": 9, "shares": 10, "share": 11,
    "surplus": 12, "welfare": 13, "gain": 14, "ladder": 15, "price_for": 16, "check": 17,
    "worth": 18, "dual": 19, "book": 20, "mirror": 21, "shift": 22,
}


def flat(calls):
    """One list of whole numbers from calls such as ("open", 0, 9) or ("check", 5, [1, 1])."""
    numbers = []
    for call in calls:
        numbers.append(NUMBERS[call[0]])
        for value in call[1:]:
            if isinstance(value, (list, tuple)):
                numbers.append(len(value))
                numbers.extend(value)
            else:
                numbers.append(value)
    return numbers


def split(given):
    """The answers call by call; fails where the counts don't come out."""
    parts = []
    place = 0
    while place < len(given):
        count = given[place]
        if count < 1 or place + 1 + count > len(given):
            raise AssertionError(f"a count of {count} at place {place} of {given}")
        parts.append(given[place + 1:place + 1 + count])
        place += 1 + count
    return parts


def ask(*calls):
    """The answer to each of the calls, on a new object."""
    parts = split(answers(flat(calls)))
    if len(parts) != len(calls):
        raise AssertionError(f"{len(calls)} calls, {len(parts)} answers")
    return parts


def last(*calls):
    """The answer to the last of the calls."""
    return ask(*calls)[-1]


def behind(start, *calls):
    """The answers to the calls alone, behind those of the start."""
    return ask(*start, *calls)[len(start):]
