"""The ground: it numbers and sends the orders that it is asked for, and hears the frames that can be."""

from farword.books import is_order, names_of
from farword.errors import InvalidInput
from farword.steps import is_lot_of_holds


def can_follow(frame, later):
    """Whether a craft that has told the frame can tell the other one, of the same tick or a later one."""
    ticks = later[0] - frame[0]
    if ticks == 0:
        return later == frame
    return 0 <= later[1] - frame[1] <= ticks


class Ground:
    """A ground with a book, which has so many orders at most on their way at a time: its window."""

    def __init__(self, book, window):
        self._book = book
        self._window = window
        self._asked = []
        self._sent = []
        self._frames = []

    def ask(self, order):
        """Asks for an order; its number. Raises InvalidInput."""
        if order is None or not is_order(self._book, order):
            raise InvalidInput(f"no order of the book: {order!r}")
        self._asked.append(order)
        return len(self._asked) - 1

    def send(self):
        """Sends; the list of the order letters."""
        first = self.known()
        letters = [("order", first + at, order) for at, order in enumerate(self._asked[first:first + self._window])]
        since = 1 if len(self._frames) == 0 else self._frames[-1][0] + 1
        # All orders ahead of one that is sent were sent, too.
        for _, _, order in letters[len(self._sent) - first:]:
            self._sent.append((order, since))
        return letters

    def can_be(self, frame):
        """Whether the frame can be."""
        tick, count, mode, on = frame
        if mode not in names_of(self._book.modes) or not is_lot_of_holds(self._book, on):
            return False
        if count > tick or count > len(self._sent):
            return False
        if count > 0 and self._sent[count - 1][1] > tick:
            return False
        # The frames that were heard can follow one another, so that those next to this one tell for all.
        at = self._place_of(tick)
        if at > 0 and not can_follow(self._frames[at - 1], frame):
            return False
        return at == len(self._frames) or can_follow(frame, self._frames[at])

    def hear(self, frame):
        """Hears the frame, if it can be; whether it can."""
        if not self.can_be(frame):
            return False
        at = self._place_of(frame[0])
        if at == 0 or self._frames[at - 1] != frame:
            self._frames.insert(at, frame)
        return True

    def known(self):
        """What the ground knows: so many of its orders were taken."""
        # Counts never descend from frame to frame.
        return 0 if len(self._frames) == 0 else self._frames[-1][1]

    def newest(self):
        """The frame with the greatest tick, or None."""
        return None if len(self._frames) == 0 else self._frames[-1]

    def asked(self):
        """The list of all orders that were asked for."""
        return list(self._asked)

    def sent(self):
        """The list of the orders that were sent, each with its since."""
        return list(self._sent)

    def frames(self):
        """The list of the frames that were heard, each once, ascending."""
        return list(self._frames)

    def _place_of(self, tick):
        """How many frames that were heard have at most this tick."""
        at = len(self._frames)
        while at > 0 and self._frames[at - 1][0] > tick:
            at = at - 1
        return at
