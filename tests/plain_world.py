"""Points [36] to [46] straight from their words: a craft, a ground and a world, to hold the program against."""

from tests.plain import Plain


class PlainUnmendable(Exception):
    """A cell with two places off was read or scrubbed."""


class PlainCraft:
    """A craft that keeps all inputs it has taken, and for each cell which places are off."""

    def __init__(self, parts, cells, beats):
        self.plain, self.cells, self.beats = Plain(parts), cells, beats
        self.taken, self.turn, self.in_round = [], 1, 0
        self.up, self.counts, self.runs = [True, True], [0, 0], 0
        self.off = {}

    def standing(self):
        return self.plain.behind(self.plain.first(), self.taken)

    def orders(self):
        return [order for _, order in self.taken if order is not None]

    def inputs(self):
        return self.taken[len(self.taken) - self.in_round:]

    def cells_read(self):
        """The cells that reading the log reads, in order: up to the first one behind the inputs of the round."""
        half = self.cells // 2
        first = self.turn % 2 * half
        ends = first + min(4 + self.in_round + 1, half)
        return [0, half, *range(first + 1, ends)]

    def cells_written(self):
        """The cells of the writes that the next input needs, in order."""
        half = self.cells // 2
        first = self.turn % 2 * half
        if 4 + self.in_round < half:
            return [first + 4 + self.in_round]
        other = half - first
        return [other + 1, other + 2, other + 3, other, other + 4]

    def flip(self, cell, place):
        self.off[cell] = self.off.get(cell, set()) ^ {place}

    def check(self, cells):
        for cell in cells:
            if len(self.off.get(cell, ())) > 1:
                raise PlainUnmendable(cell)

    def tick(self, told, fall=None):
        """What a Step has that is told, or None."""
        if self.runs is None:
            return self.dead_tick()
        scrubbed = len(self.taken) % self.cells
        self.check([*self.cells_read(), scrubbed])
        self.off.pop(scrubbed, None)
        self.counts = [0, 0]
        needed = self.cells_written()
        done = needed if fall is None else needed[:fall]
        for cell in done:
            self.off.pop(cell, None)
        if len(needed) == 5 and len(done) >= 4:
            self.turn, self.in_round = self.turn + 1, 0
        ahead = self.standing()
        if len(done) == len(needed):
            self.taken.append(told)
            self.in_round += 1
        if fall is not None:
            self.fall(self.runs)
            return None
        return self.plain.tick(ahead, *told)

    def dead_tick(self):
        for side in (0, 1):
            if self.up[side]:
                self.counts[side] += 1
        for side in (1, 0):
            if self.up[side] and self.counts[side] == self.beats:
                self.runs = side
        if self.runs is not None:
            self.counts = [0, 0]

    def fall(self, side):
        self.up[side] = False
        if self.runs == side:
            self.runs = None

    def rise(self, side):
        if not self.up[side]:
            self.up[side], self.counts[side] = True, 0


class PlainGround:
    """A ground that asks all frames that it has heard for each rule of point [42]."""

    def __init__(self, parts, window):
        self.modes = [part[0] for part in parts["modes"]]
        self.holds = parts["holds"]
        self.window, self.asked, self.since, self.heard = window, [], [], []

    def known(self):
        return max([frame[1] for frame in self.heard], default=0)

    def newest(self):
        return max(self.heard, default=None)

    def sent(self):
        return list(zip(self.asked, self.since))

    def send(self):
        numbers = [number for number in range(len(self.asked))
                   if self.known() <= number <= self.known() + self.window - 1]
        for number in numbers:
            if number == len(self.since):
                self.since.append(self.newest()[0] + 1 if self.heard else 1)
        return [("order", number, self.asked[number]) for number in numbers]

    def can_be(self, frame):
        tick, count, mode, on = frame
        rules = [mode in self.modes, list(on) == sorted(set(on) & set(self.holds)), count <= tick,
                 count <= len(self.since)]
        if not all(rules) or count > 0 and self.since[count - 1] > tick:
            return False
        for other in self.heard:
            low, high = sorted([frame, other], key=lambda told: told[0])
            if low[0] == high[0] and low != high:
                return False
            if not low[1] <= high[1] <= low[1] + high[0] - low[0]:
                return False
        return True

    def hear(self, frame):
        possible = self.can_be(frame)
        if possible and frame not in self.heard:
            self.heard = sorted([*self.heard, frame])
        return possible


class PlainWorld:
    """A world with a list of the letters on the road, each behind its number."""

    def __init__(self, parts, window, cells, beats):
        self.craft = PlainCraft(parts, cells, beats)
        self.ground = PlainGround(parts, window)
        self.road, self.numbers, self.waiting = [], 0, None

    def put(self, letter):
        self.road.append((self.numbers, letter))
        self.numbers += 1
        return self.numbers - 1

    def letter(self, number):
        return dict(self.road)[number]

    def send(self):
        return [self.put(letter) for letter in self.ground.send()]

    def lose(self, number):
        self.road.remove((number, self.letter(number)))

    def double(self, number):
        return self.put(self.letter(number))

    def deliver(self, number):
        sort, *told = self.letter(number)
        if sort == "frame":
            self.ground.hear(tuple(told))
        elif self.craft.runs is not None and self.waiting is None:
            self.craft.check(self.craft.cells_read())
            if told[0] == len(self.craft.orders()):
                self.waiting = tuple(told)
        self.lose(number)

    def tick(self, alarms, fall=None):
        order = None if self.waiting is None else self.waiting[1]
        told = self.craft.tick((alarms, order), fall)
        self.waiting = None
        if told is not None:
            mode, on = told[0][:2]
            self.put(("frame", len(self.craft.taken), len(self.craft.orders()), mode, on))
        return told

    def fall(self, side):
        if self.craft.runs == side:
            self.waiting = None
        self.craft.fall(side)

    def deliver_all(self):
        for number, _ in list(self.road):
            self.deliver(number)

    def is_settled(self):
        return self.ground.known() == len(self.ground.asked)

    def settle(self):
        """How many rounds it takes; none if no side is up."""
        rounds = 0
        while not self.is_settled() and any(self.craft.up):
            self.send()
            self.deliver_all()
            self.tick(())
            self.deliver_all()
            rounds += 1
        return rounds
