"""The link: a ground, a craft, and the road between them, on which letters are lost, doubled and late."""

from farword.craft import SIDES, Craft
from farword.errors import UnknownLetter
from farword.ground import Ground


class World:
    """A world with a ground, a craft, and the letters on the road between them."""

    def __init__(self, book, window, cells, beats):
        self._ground = Ground(book, window)
        self._craft = Craft(book, cells, beats)
        self._beats = beats
        self._road = {}
        self._next_number = 0
        self._waiting = None

    def ask(self, order):
        """Asks the ground for an order; its number. Raises InvalidInput."""
        return self._ground.ask(order)

    def send(self):
        """Lets the ground send; the list of the numbers of the letters."""
        return [self._put_on_road(letter) for letter in self._ground.send()]

    def letters(self):
        """The list of the letters on the road, each behind its number, ascending."""
        # Numbers only grow, so that the dict has them in ascending order.
        return list(self._road.items())

    def deliver(self, number):
        """Delivers the letter. Raises UnknownLetter, Unmendable."""
        letter = self._letter_at(number)
        if letter[0] == "order":
            self._reach_craft(letter)
        else:
            self._ground.hear(letter[1:])
        del self._road[number]

    def lose(self, number):
        """Loses the letter. Raises UnknownLetter."""
        self._letter_at(number)
        del self._road[number]

    def double(self, number):
        """Puts another letter like this one on the road; its number. Raises UnknownLetter."""
        return self._put_on_road(self._letter_at(number))

    def tick(self, alarms, *, fall=None):
        """One tick of the world; the Step that was told, or None. Raises InvalidInput, Unmendable."""
        order = None if self._waiting is None else self._waiting[1]
        step, frame = self._craft.tick_with_frame(alarms, order, fall)
        self._waiting = None
        if frame is not None:
            self._put_on_road(("frame", *frame))
        return step

    def fall(self, side):
        """The side of the craft falls, if it is up; with the one that runs the order that waits is lost."""
        if self._craft.running() == side:
            self._waiting = None
        self._craft.fall(side)

    def rise(self, side):
        """The side of the craft rises, if it is down."""
        self._craft.rise(side)

    def flip(self, cell, bit):
        """Flips the place of the cell of the craft."""
        self._craft.flip(cell, bit)

    def waiting(self):
        """The number of the order that waits, and the order, or None."""
        return self._waiting

    def standing(self):
        """The standing of the craft. Raises Unmendable."""
        return self._craft.standing()

    def ticks(self):
        """How many inputs the craft has taken. Raises Unmendable."""
        return self._craft.ticks()

    def orders(self):
        """How many orders the craft has taken. Raises Unmendable."""
        return self._craft.orders()

    def running(self):
        """The side of the craft that runs, or None."""
        return self._craft.running()

    def known(self):
        """How many of its orders the ground knows to be taken."""
        return self._ground.known()

    def asked(self):
        """The list of all orders that the ground was asked for."""
        return self._ground.asked()

    def sent(self):
        """The list of the orders that the ground has sent, each with its since."""
        return self._ground.sent()

    def frames(self):
        """The list of the frames that the ground has heard, each once, ascending."""
        return self._ground.frames()

    def settle(self):
        """Settles; whether the ground knows that all of its orders were taken. Raises Unmendable."""
        if any([self._craft.is_up(side) for side in SIDES]):
            for _ in range(self._most_rounds()):
                if self._is_settled():
                    break
                self._go_round()
        return self._is_settled()

    def _is_settled(self):
        return self._ground.known() == len(self._ground.asked())

    def _most_rounds(self):
        """How many rounds settling takes at most, as long as the cells can be trusted."""
        rounds = len(self._ground.asked()) - self._ground.known() + 1
        return rounds if self._craft.running() is not None else rounds + self._beats

    def _go_round(self):
        self.send()
        self._deliver_all()
        self.tick(())
        self._deliver_all()

    def _deliver_all(self):
        for number in list(self._road):
            self.deliver(number)

    def _letter_at(self, number):
        if number not in self._road:
            raise UnknownLetter(number)
        return self._road[number]

    def _put_on_road(self, letter):
        """The number of the letter, which is on the road from now on."""
        number = self._next_number
        self._next_number = number + 1
        self._road[number] = letter
        return number

    def _reach_craft(self, letter):
        """Lets the order of the letter wait, if it is the one that is due; it is lost otherwise. Raises Unmendable."""
        _, number, order = letter
        if self._craft.running() is None or self._waiting is not None:
            return
        if number == self._craft.orders():
            self._waiting = (number, order)
