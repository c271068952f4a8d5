"""The calls on one zone, handed in and answered as lists of whole numbers."""

from quarterprice.actions import carry_out
from quarterprice.ranges import are_in_range
from quarterprice.reading import split_calls
from quarterprice.session import Session

BEGIN_SESSION = 0
ACCEPTED = 0
OUT_OF_RANGE = -1
NO_SESSION = -2


class Zone:
    """An object that is called; at first no session is open."""

    def __init__(self):
        self.session = None

    def answer(self, call, numbers):
        """Answer one call: 0 and what is told behind it, or a refusal alone."""
        if not are_in_range(call, numbers):
            return [OUT_OF_RANGE]
        if call == BEGIN_SESSION:
            self.session = Session(numbers[0], numbers[1])
            return [ACCEPTED]
        if self.session is None:
            return [NO_SESSION]
        return carry_out(call, self.session, numbers)


def answers(calls):
    """Answer all calls of the list, in order, on a zone that is new."""
    zone = Zone()
    given = []
    for call, numbers in split_calls(calls):
        answer = zone.answer(call, numbers)
        given.append(len(answer))
        given.extend(answer)
    return given
