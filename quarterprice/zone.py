"""The calls on one zone, handed in and answered as lists of whole numbers."""

from quarterprice.actions import carry_out
from quarterprice.ranges import are_in_range, count_of_numbers
from quarterprice.session import Session

BEGIN_SESSION = 0
ACCEPTED = 0
OUT_OF_RANGE = -1
NO_SESSION = -2


class Zone:
    """An object that is called; at first no session is open."""

    def __init__(self):
        self.session = None

    def answer(self, call, numbers):
        """Answer one call: 0 and what is told behind it, or a refusal alone."""
        if not are_in_range(call, numbers):
            return [OUT_OF_RANGE]
        if call == BEGIN_SESSION:
            self.session = Session(numbers[0], numbers[1])
            return [ACCEPTED]
        if self.session is None:
            return [NO_SESSION]
        return carry_out(call, self.session, numbers)


def answers(calls):
    """Answer all calls of the list, in order, on a zone that is new."""
    zone = Zone()
    given = []
    place = 0
    while place < len(calls):
        call = calls[place]
        behind = place + 1 + count_of_numbers(call)
        answer = zone.answer(call, calls[place + 1:behind])
        given.append(len(answer))
        given.extend(answer)
        place = behind
    return given
