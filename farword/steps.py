"""Standings and ticks: what one tick does, and what it shows."""

from itertools import combinations

from farword.books import check_inputs, is_lot, names_of
from farword.errors import InvalidStanding

# The row, the place and the ticks left of a standing in which no row runs.
NO_ROW = (None, 0, 0)
PARTS_OF_STANDING = 6


class Step:
    """What comes of a tick: the next standing, the commands done and refused, and the moments."""

    def __init__(self, standing, done, refused, moments):
        self.standing = standing
        self.done = list(done)
        self.refused = list(refused)
        self.moments = list(moments)


def changed(lot, on, off):
    """The lot of the holds that are on behind turning some off, and then some on."""
    return tuple(sorted(set([*on, *[hold for hold in lot if hold not in off]])))


def entered(book, mode, lot):
    """The lot of the holds that are on behind entering the mode with a lot of holds on."""
    _, on, off = book.mode_named(mode)
    return changed(lot, on, off)


def first_standing(book):
    """The first standing of the book."""
    return (book.safe, entered(book, book.safe, ()), *NO_ROW, 0)


def is_lot_of_holds(book, lot):
    """Whether the tuple of strings is a lot of holds of the book."""
    holds = book.holds
    return is_lot(lot) and all([hold in holds for hold in lot])


def is_place_in_row(book, row, place, left):
    """Whether the three are a row of the book and a step and ticks of it, or those of no row."""
    if row is None:
        return place == 0 and left == 0
    if row not in names_of(book.rows):
        return False
    _, steps = book.row_named(row)
    return 0 <= place < len(steps) and 1 <= left <= steps[place][0]


def is_silence(book, silence):
    """Whether an integer can be the silence of a standing of the book."""
    return silence == 0 if book.quiet is None else 0 <= silence < book.quiet


def is_standing(book, value):
    """Whether the tuple is a standing of the book."""
    if len(value) != PARTS_OF_STANDING:
        return False
    mode, lot, row, place, left, silence = value
    if mode not in names_of(book.modes) or not is_lot_of_holds(book, lot):
        return False
    return is_place_in_row(book, row, place, left) and is_silence(book, silence)


def ascending_key(standing):
    """What standings are ordered by: a row that is None counts as the empty string."""
    mode, lot, row, place, left, silence = standing
    return (mode, lot, "" if row is None else row, place, left, silence)


def ascending(standings):
    """The list of the different ones of the standings, ascending."""
    by_key = {ascending_key(standing): standing for standing in standings}
    return [by_key[key] for key in sorted(by_key)]


class Motion:
    """A standing while a tick is done, and what the tick has shown so far."""

    def __init__(self, book, standing):
        self._book = book
        self.mode, self.lot, self.row, self.place, self.left, self.silence = standing
        self.done = []
        self.refused = []
        self.moments = []

    def take_alarms(self, alarms):
        """Lets the alarms have their effects, in the order of the book."""
        if len(alarms) == 0:
            return
        for alarm in self._book.alarms:
            if alarm[0] in alarms:
                self._have_effect(alarm)
        self._stop_row()

    def take_order(self, order):
        """Does what the tick does behind its alarms: obeys the order, or is silent, and goes on in the row."""
        if order is None:
            self._be_silent()
        else:
            self._obey(order)
        begun = order is not None and order[0] == "run"
        if self.row is not None and not begun:
            self._go_on_in_row()

    def standing_now(self):
        """The standing as it is now."""
        return (self.mode, self.lot, self.row, self.place, self.left, self.silence)

    def step(self):
        """The Step that has come of the tick."""
        return Step(self.standing_now(), self.done, self.refused, self.moments)

    def _have_effect(self, part):
        """Lets a command or an alarm have its effect, which is one moment."""
        on, off, to = part[-3:]
        self.lot = changed(self.lot, on, off)
        if to is not None:
            self._enter(to)
        self.moments.append(self.lot)

    def _enter(self, mode):
        self.mode = mode
        self.lot = entered(self._book, mode, self.lot)

    def _stop_row(self):
        self.row, self.place, self.left = NO_ROW

    def _come_to_step(self, row, place):
        """Lets the step of the row come next, after its ticks."""
        _, steps = self._book.row_named(row)
        self.row = row
        self.place = place
        self.left = steps[place][0]

    def _be_silent(self):
        if self._book.quiet is None:
            return
        self.silence = self.silence + 1
        if self.silence == self._book.quiet:
            self._enter(self._book.safe)
            self.moments.append(self.lot)
            self._stop_row()
            self.silence = 0

    def _obey(self, order):
        if order[0] == "do":
            if not self._try_command(order[1]):
                self.refused.append(order[1])
        elif order[0] == "run":
            self._come_to_step(order[1], 0)
        else:
            self._stop_row()
        self.silence = 0

    def _try_command(self, name):
        """Does the command if it is let in the mode as it is now; whether it was."""
        command = self._book.command_named(name)
        if self.mode not in command[1]:
            return False
        self._have_effect(command)
        self.done.append(name)
        return True

    def _go_on_in_row(self):
        self.left = self.left - 1
        if self.left > 0:
            return
        _, steps = self._book.row_named(self.row)
        # A command that is not let is passed over here: only an order is refused.
        self._try_command(steps[self.place][1])
        if self.place + 1 < len(steps):
            self._come_to_step(self.row, self.place + 1)
        else:
            self._stop_row()


def step_of(book, standing, alarms, order):
    """The Step of a tick from a standing of the book by an input of the book."""
    motion = Motion(book, standing)
    motion.take_alarms(alarms)
    motion.take_order(order)
    return motion.step()


def tick(book, standing, alarms, order):
    """The Step of a tick. Raises InvalidStanding, InvalidInput."""
    if not is_standing(book, standing):
        raise InvalidStanding(f"no standing of the book: {standing!r}")
    check_inputs(book, [(alarms, order)])
    return step_of(book, standing, alarms, order)


def run_of(book, inputs):
    """The list of the Steps of a history. Raises InvalidInput."""
    check_inputs(book, inputs)
    standing = first_standing(book)
    steps = []
    for alarms, order in inputs:
        step = step_of(book, standing, alarms, order)
        steps.append(step)
        standing = step.standing
    return steps


def orders_of(book):
    """The list of None and of all orders of the book, in order."""
    commands = [("do", name) for name in names_of(book.commands)]
    rows = [("run", name) for name in sorted(names_of(book.rows))]
    return [None, *commands, *rows, ("stop",)]


def lots_of(names):
    """The list of all lots of some of the names, in the order in which inputs have their alarms."""
    ordered = sorted(names)
    lots = []
    for many in range(len(ordered) + 1):
        lots.extend(list(combinations(ordered, many)))
    return lots


def alarm_lots(book):
    """The list of all lots of alarms of the book, in order."""
    return lots_of(names_of(book.alarms))


def inputs_of(book):
    """The list of all inputs of the book, in order."""
    return [(alarms, order) for alarms in alarm_lots(book) for order in orders_of(book)]


def is_barred(book, lot):
    """Whether a barred lot of the book is part of the lot of holds."""
    return any([all([hold in lot for hold in barred]) for barred in book.barred])
