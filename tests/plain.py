"""The plain book: points [20] to [25] straight from their words, to hold the program against, and books by chance."""

import itertools
import random


class Plain:
    """A book told by its parts (see tests.samples), and its ticks, worked out by sets."""

    def __init__(self, parts):
        self.parts = parts
        self.quiet = parts["quiet"]
        self.modes = {part[0]: part for part in parts["modes"]}
        self.commands = {part[0]: part for part in parts["commands"]}
        self.rows = dict(parts["rows"])
        self.safe = parts["modes"][0][0]

    def first(self):
        return (self.safe, tuple(sorted(self.modes[self.safe][1])), None, 0, 0, 0)

    def effect(self, mode, holds, on, off, to):
        """The mode and the set of holds behind an effect."""
        holds = (holds - set(off)) | set(on)
        if to is None:
            return mode, holds
        return to, (holds - set(self.modes[to][2])) | set(self.modes[to][1])

    def tick(self, standing, alarms, order):
        """The next standing, the commands done and refused, and the moments."""
        mode, lot, row, place, left, silence = standing
        holds, done, refused, moments, begun = set(lot), [], [], [], False
        for name, on, off, to in self.parts["alarms"]:
            if name in alarms:
                mode, holds = self.effect(mode, holds, on, off, to)
                moments.append(tuple(sorted(holds)))
        if alarms:
            row, place, left = None, 0, 0
        if order is not None:
            if order[0] == "do":
                if mode in self.commands[order[1]][1]:
                    mode, holds = self.effect(mode, holds, *self.commands[order[1]][2:])
                    moments.append(tuple(sorted(holds)))
                    done.append(order[1])
                else:
                    refused.append(order[1])
            if order[0] == "run":
                row, place, left, begun = order[1], 0, self.rows[order[1]][0][0], True
            if order[0] == "stop":
                row, place, left = None, 0, 0
            silence = 0
        if order is None and self.quiet is not None:
            silence += 1
            if silence == self.quiet:
                mode, holds = self.effect(mode, holds, (), (), self.safe)
                moments.append(tuple(sorted(holds)))
                row, place, left, silence = None, 0, 0, 0
        if row is not None and not begun:
            left -= 1
            if left == 0:
                name = self.rows[row][place][1]
                if mode in self.commands[name][1]:
                    mode, holds = self.effect(mode, holds, *self.commands[name][2:])
                    moments.append(tuple(sorted(holds)))
                    done.append(name)
                place += 1
                if place == len(self.rows[row]):
                    row, place, left = None, 0, 0
                else:
                    left = self.rows[row][place][0]
        return (mode, tuple(sorted(holds)), row, place, left, silence), done, refused, moments

    def inputs(self):
        """All inputs, in order."""
        names = [part[0] for part in self.parts["alarms"]]
        lots = [tuple(sorted(lot)) for many in range(5) for lot in itertools.combinations(names, many)]
        orders = [None, *sorted(("do", name) for name in self.commands), *sorted(("run", name) for name in self.rows),
                  ("stop",)]
        return [(lot, order) for lot in sorted(lots, key=lambda lot: (len(lot), lot)) for order in orders]

    def behind(self, standing, inputs):
        """The standing behind the inputs."""
        for told in inputs:
            standing = self.tick(standing, *told)[0]
        return standing

    def shown(self, standing, inputs):
        """What each of the ticks shows."""
        shows = []
        for told in inputs:
            standing, done, refused, _ = self.tick(standing, *told)
            shows.append((done, refused, standing[1]))
        return shows

    def is_barred_lot(self, lot):
        return any(set(barred) <= set(lot) for barred in self.parts["barred"])

    def first_histories(self, most=10 ** 9):
        """A dict from the reached standings, in order, to their first histories, at most so many of them."""
        found = {self.first(): []}
        waiting = [self.first()]
        for standing in waiting:
            for told in self.inputs():
                behind = self.tick(standing, *told)[0]
                if behind not in found and len(found) < most:
                    found[behind] = [*found[standing], told]
                    waiting.append(behind)
        return found

    def histories(self, most):
        """All histories of at most so many ticks, in order."""
        for length in range(most + 1):
            for history in itertools.product(self.inputs(), repeat=length):
                yield list(history)

    def standings(self):
        """All standings, reached or not."""
        holds = sorted(self.parts["holds"])
        lots = [lot for many in range(len(holds) + 1) for lot in itertools.combinations(holds, many)]
        places = [(None, 0, 0)]
        for row, steps in self.rows.items():
            places += [(row, place, left) for place, step in enumerate(steps) for left in range(1, step[0] + 1)]
        return [(mode, lot, *place, silence) for mode in self.modes for lot in lots for place in places
                for silence in range(self.quiet or 1)]


def lot_by_chance(chance, names, share=0.4):
    return tuple(sorted(name for name in names if chance.random() < share))


def effect_by_chance(chance, holds):
    """Two lots of holds that have none in common."""
    on = lot_by_chance(chance, holds)
    return on, lot_by_chance(chance, [hold for hold in holds if hold not in on])


def parts_by_chance(seed, holds=3, modes=3, barred=1, commands=2, alarms=2, rows=1, quiet=3):
    """The parts of a book with at most so many things of each sort; quiet may be missing."""
    chance = random.Random(seed)
    holds = [f"h{k}" for k in range(chance.randint(1, holds))]
    names = [f"m{k}" for k in range(chance.randint(1, modes))]
    chance.shuffle(names)
    lots = [lot for many in range(2, len(holds) + 1) for lot in itertools.combinations(holds, many)]
    chance.shuffle(lots)
    commands = [(f"c{k}", lot_by_chance(chance, names, 0.7), *effect_by_chance(chance, holds),
                 chance.choice([None, *names])) for k in range(chance.randint(0, commands))]
    alarms = [(f"a{k}", *effect_by_chance(chance, holds), chance.choice([None, *names]))
              for k in range(chance.randint(0, alarms))]
    chance.shuffle(alarms)
    rows = [(f"r{k}", tuple((chance.randint(1, 3), chance.choice(commands)[0]) for _ in range(chance.randint(1, 3))))
            for k in range(chance.randint(0, rows) if commands else 0)]
    chance.shuffle(rows)
    return {"holds": holds, "modes": [(name, *effect_by_chance(chance, holds)) for name in names],
            "barred": lots[:chance.randint(0, barred)], "commands": commands, "alarms": alarms, "rows": rows,
            "quiet": chance.choice([None, *range(1, quiet + 1)])}
