"""The craft: two sides that fall and rise, and share a memory with a log of what the craft has taken."""

from farword.books import check_inputs
from farword.log import begin_log, read_log, writes_behind
from farword.memory import Memory
from farword.steps import step_of

BITS_OF_LOG = 32
SIDES = (0, 1)


class Craft:
    """A craft with a book and a memory of so many cells; a side that waits takes over behind so many beats."""

    def __init__(self, book, cells, beats):
        self._book = book
        self._memory = Memory(cells, BITS_OF_LOG)
        self._beats = beats
        self._up = [True, True]
        self._counts = [0, 0]
        self._runs = 0
        begin_log(book, self._memory)

    def tick(self, alarms, order, *, fall=None):
        """One tick of the world; the Step that was told, or None. Raises InvalidInput, Unmendable."""
        step, _ = self.tick_with_frame(alarms, order, fall)
        return step

    def tick_with_frame(self, alarms, order, fall):
        """One tick of the world; the Step and the frame that were told, or None and None.

        The frame is made of what was read ahead of the writes: behind them the log might be past reading.
        Raises InvalidInput, Unmendable.
        """
        check_inputs(self._book, [(alarms, order)])
        if self._runs is None:
            self._count_dead_tick()
            return (None, None)
        told = read_log(self._book, self._memory)
        self._memory.scrub(told.ticks % self._memory.cells)
        self._counts = [0, 0]
        self._make_writes(writes_behind(self._book, self._memory, told, alarms, order), fall)
        if fall is not None:
            self.fall(self._runs)
            return (None, None)
        step = step_of(self._book, told.standing, alarms, order)
        orders = told.orders if order is None else told.orders + 1
        mode, lot = step.standing[:2]
        return (step, (told.ticks + 1, orders, mode, lot))

    def fall(self, side):
        """The side falls, if it is up."""
        self._up[side] = False
        if self._runs == side:
            self._runs = None

    def rise(self, side):
        """The side rises, if it is down."""
        if not self._up[side]:
            self._up[side] = True
            self._counts[side] = 0

    def is_up(self, side):
        """Whether the side is up."""
        return self._up[side]

    def running(self):
        """The side that runs, or None."""
        return self._runs

    def standing(self):
        """The standing that the log tells. Raises Unmendable."""
        return self._told().standing

    def ticks(self):
        """How many inputs the log has taken. Raises Unmendable."""
        return self._told().ticks

    def orders(self):
        """How many orders the log has taken. Raises Unmendable."""
        return self._told().orders

    def inputs(self):
        """The list of the inputs of the present round of the log. Raises Unmendable."""
        return self._told().inputs

    def flip(self, cell, place):
        """Flips the place of the cell."""
        self._memory.flip(cell, place)

    def _told(self):
        return read_log(self._book, self._memory)

    def _make_writes(self, writes, most):
        """Makes so many of the writes, or all of them if this is None."""
        for cell, word in writes[:most]:
            self._memory.write(cell, word)

    def _count_dead_tick(self):
        """Lets each side that waits count; the first one that has counted enough runs from the next tick on."""
        waiting = [side for side in SIDES if self._up[side]]
        for side in waiting:
            self._counts[side] = self._counts[side] + 1
        ready = [side for side in waiting if self._counts[side] >= self._beats]
        if len(ready) > 0:
            self._runs = ready[0]
            self._counts = [0, 0]
