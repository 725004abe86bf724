"""Standings as numbers and ticks as sums of them, for questions that look at very many ticks.

What a tick does is said in farword.steps; here the same is worked out at once for all ticks that have a part in common.
The number of a standing is made of these numbers: its *point* tells its mode and its holds, its *stage* the row that
runs and where; both together are its *core*. A tick has two halves: its alarms lead half way, to a standing in which
no row runs, and what its order does from there is asked like a tick without alarms.
"""

from farword.books import names_of
from farword.steps import NO_ROW, first_standing, orders_of


class Points:
    """The modes and the lots of holds of a book as numbers, and what effects make of them."""

    def __init__(self, book):
        self._modes = names_of(book.modes)
        # The number of a lot of holds has a digit 1 for each hold that is on.
        self._lots = [()]
        for hold in book.holds:
            self._lots = self._lots + [(*lot, hold) for lot in self._lots]
        self._numbers = {lot: number for number, lot in enumerate(self._lots)}
        self._entering = [self._change(on, off) for _, on, off in book.modes]
        barred = [self._numbers[lot] for lot in book.barred]
        self._barred = [any([here & lot == lot for lot in barred]) for here in range(len(self._lots))]

    def number_of(self, mode, lot):
        """The point of a mode and a lot of holds."""
        return self._modes.index(mode) * len(self._lots) + self._numbers[lot]

    def mode_and_lot(self, point):
        """The mode and the lot of holds of the point."""
        mode, lot = divmod(point, len(self._lots))
        return (self._modes[mode], self._lots[lot])

    def effect(self, part):
        """The effect of a command or an alarm, as `behind` takes it."""
        on, off, to = part[-3:]
        return (self._change(on, off), None if to is None else self._modes.index(to))

    def behind(self, point, effect):
        """The point behind the effect."""
        (keep, on), to = effect
        mode, lot = divmod(point, len(self._lots))
        lot = lot & keep | on
        if to is not None:
            return self.entered(to, lot)
        return mode * len(self._lots) + lot

    def entered(self, mode, lot):
        """The point behind entering the mode, told by its place in the book, with the lot of this number on."""
        keep, on = self._entering[mode]
        return mode * len(self._lots) + (lot & keep | on)

    def lot_at(self, point):
        """The number of the lot of holds of the point."""
        return point % len(self._lots)

    def is_let(self, point, modes):
        """Whether the mode of the point is one of these."""
        return self._modes[point // len(self._lots)] in modes

    def is_barred(self, point):
        """Whether the holds of the point have a barred lot."""
        return self._barred[self.lot_at(point)]

    def _change(self, on, off):
        """The numbers of the lots of the holds that an effect does not turn off, and of those that it turns on."""
        return (len(self._lots) - 1 - self._numbers[off], self._numbers[on])


class Stages:
    """The places in the rows of a book as numbers: 0 where no row runs."""

    def __init__(self, book):
        self._commands = names_of(book.commands)
        self.told = [NO_ROW]
        # For each stage the place of the command that comes in the next tick, or None, and the stage behind this tick.
        self.comes = [None]
        self.follows = [0]
        self.begun = {}
        for row, steps in book.rows:
            self.begun[row] = len(self.told) + steps[0][0] - 1
            for place in range(len(steps)):
                self._add_step(row, steps, place)
        self.numbers = {told: number for number, told in enumerate(self.told)}

    def _add_step(self, row, steps, place):
        """Adds the stages of a step, the one with a single tick left first."""
        ticks, command = steps[place]
        first = len(self.told)
        next_one = first + ticks + steps[place + 1][0] - 1 if place + 1 < len(steps) else 0
        self.told.extend([(row, place, left) for left in range(1, ticks + 1)])
        self.comes.extend([self._commands.index(command), *[None] * (ticks - 1)])
        self.follows.extend([next_one] + list(range(first, first + ticks - 1)))


class Machine:
    """The ticks of a book by some lots of alarms, from standings that are told by numbers.

    What comes of a tick is told as a tuple: the number of the standing behind it, a number that is the same for ticks
    by one order just if they do and refuse the same commands, and whether a moment is barred.
    """

    def __init__(self, book, lots):
        self._points = Points(book)
        self._stages = Stages(book)
        self._many_stages = len(self._stages.told)
        self._quiet = book.quiet
        self._turns = 1 if book.quiet is None else book.quiet
        self._commands = [(part[1], self._points.effect(part)) for part in book.commands]
        self._alarms = [(part[0], self._points.effect(part)) for part in book.alarms]
        self._lots = [lot for lot in lots if len(lot) > 0]
        self.orders = orders_of(book)
        self._begun = [self._stages.begun[row] for row in sorted(names_of(book.rows))]
        self.first = self.number_of(first_standing(book))
        self._done = {}
        self._gone_on = {}
        self._ordered = {}
        self._alarmed = {}

    def number_of(self, standing):
        """The number of the standing."""
        mode, lot, row, place, left, silence = standing
        core = self._points.number_of(mode, lot) * self._many_stages + self._stages.numbers[(row, place, left)]
        return core * self._turns + silence

    def standing_of(self, number):
        """The standing with this number."""
        core, silence = divmod(number, self._turns)
        point, stage = divmod(core, self._many_stages)
        return (*self._points.mode_and_lot(point), *self._stages.told[stage], silence)

    def core_of(self, number):
        """The core of a standing: an order leads from all standings with one core to the same standing."""
        return number // self._turns

    def stopped(self, number):
        """The standing without its row: alarms lead from both to the same standings."""
        core, silence = divmod(number, self._turns)
        return (core - core % self._many_stages) * self._turns + silence

    def lot_of(self, number):
        """The number of the lot of the holds that are on in a standing."""
        return self._points.lot_at(number // self._turns // self._many_stages)

    def half_ways(self, number):
        """For each lot of alarms but the empty one the lot, where it leads half way, and whether a moment is barred."""
        core, silence = divmod(number, self._turns)
        many = self._many_stages * self._turns
        return [(alarms, to * many + silence, barred) for alarms, to, barred in
                self._alarmed_at(core // self._many_stages)]

    def waited(self, number):
        """What comes of a tick without alarms and without an order."""
        core, silence = divmod(number, self._turns)
        if self._quiet is not None:
            silence = silence + 1
            if silence == self._quiet:
                safe = self._points.entered(0, self._points.lot_at(core // self._many_stages))
                return (safe * self._many_stages * self._turns, 0, self._points.is_barred(safe))
        behind, done, barred = self._row_gone_on(core)
        return (behind * self._turns + silence, 2 * done, barred)

    def ordered(self, core):
        """The list of what comes of ticks without alarms by each order, in order, from standings with this core."""
        if core not in self._ordered:
            self._ordered[core] = self._by_each_order(core)
        return self._ordered[core]

    def behind(self, number, at):
        """The number of the standing behind a tick without alarms by the order at this place, the first one none."""
        outcome = self.waited(number) if at == 0 else self.ordered(self.core_of(number))[at - 1]
        return outcome[0]

    def _by_each_order(self, core):
        point, stage = divmod(core, self._many_stages)
        outcomes = []
        for to in self._done_at(point):
            came, done, barred = self._row_gone_on(core if to is None else to * self._many_stages + stage)
            refused = 1 if to is None else 0
            barred = barred or (to is not None and self._points.is_barred(to))
            outcomes.append((came * self._turns, 2 * done + refused, barred))
        for begun in [*self._begun, 0]:
            outcomes.append(((point * self._many_stages + begun) * self._turns, 0, False))
        return outcomes

    def _done_at(self, point):
        """For each command the point behind it, or None where it is not let."""
        if point not in self._done:
            self._done[point] = [self._points.behind(point, effect) if self._points.is_let(point, modes) else None
                                 for modes, effect in self._commands]
        return self._done[point]

    def _row_gone_on(self, core):
        """The core behind the row's going on, the place and 1 of the command done or 0, and whether that is barred."""
        if core not in self._gone_on:
            self._gone_on[core] = self._go_on(core)
        return self._gone_on[core]

    def _go_on(self, core):
        point, stage = divmod(core, self._many_stages)
        command = self._stages.comes[stage]
        behind = self._stages.follows[stage]
        to = None if command is None else self._done_at(point)[command]
        if to is None:
            return (point * self._many_stages + behind, 0, False)
        return (to * self._many_stages + behind, command + 1, self._points.is_barred(to))

    def _alarmed_at(self, point):
        """For each lot of alarms the lot, the point behind its effects, and whether a moment is barred."""
        if point not in self._alarmed:
            self._alarmed[point] = [self._behind_alarms(point, alarms) for alarms in self._lots]
        return self._alarmed[point]

    def _behind_alarms(self, point, alarms):
        barred = False
        for name, effect in self._alarms:
            if name in alarms:
                point = self._points.behind(point, effect)
                barred = barred or self._points.is_barred(point)
        return (alarms, point, barred)


class Walk:
    """Tells the ticks from one standing after another, but only those that may lead to something new.

    The machine is a Machine, or tells of pairs of standings what a Machine tells of standings.
    """

    def __init__(self, machine):
        self._machine = machine
        self._half_ways = {}
        self._cores = {}
        self._stopped = {}

    def ticks_from(self, number):
        """The list of the inputs of the ticks, in order, each with what comes of it."""
        ticks = self._ticks_by_orders((), number)
        stopped = self._machine.stopped(number)
        if stopped in self._stopped:
            return ticks
        self._stopped[stopped] = True
        for alarms, half_way, barred in self._machine.half_ways(stopped):
            if barred:
                # It is told in any case, as another lot of alarms may lead there without a barred moment.
                behind, shown, _ = self._machine.waited(half_way)
                ticks.append(((alarms, None), (behind, shown, True)))
            ticks.extend(self._ticks_by_orders(alarms, half_way))
        return ticks

    def _ticks_by_orders(self, alarms, half_way):
        """The ticks by all orders and none from where these alarms have led, if they have not been told yet."""
        if half_way in self._half_ways:
            return []
        self._half_ways[half_way] = True
        orders = self._machine.orders
        ticks = [((alarms, None), self._machine.waited(half_way))]
        core = self._machine.core_of(half_way)
        if core not in self._cores:
            self._cores[core] = True
            for at, outcome in enumerate(self._machine.ordered(core), start=1):
                ticks.append(((alarms, orders[at]), outcome))
        return ticks


class Coming:
    """What can come of the standings of a book by an order or none, and any of some alarms."""

    def __init__(self, book, lots):
        self._machine = Machine(book, lots)
        self._places = {order: at for at, order in enumerate(self._machine.orders)}
        self._behind = {}

    def behind(self, standing, order):
        """The dict from all standings that can come to the first lot of alarms by which they come."""
        key = (standing, order)
        if key not in self._behind:
            self._behind[key] = self._work_out(self._machine.number_of(standing), self._places[order])
        return self._behind[key]

    def _work_out(self, number, at):
        came = {self._machine.behind(number, at): ()}
        for alarms, half_way, _ in self._machine.half_ways(number):
            came.setdefault(self._machine.behind(half_way, at), alarms)
        return {self._machine.standing_of(behind): alarms for behind, alarms in came.items()}
