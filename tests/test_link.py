"""Points [43] to [46]: the link."""

import random
import unittest

from farword.errors import FarError, InvalidInput, TooLarge, UnknownLetter, Unmendable
from farword.link import World
from farword.steps import Step
from tests.plain import Plain, parts_by_chance
from tests.plain_world import PlainUnmendable, PlainWorld
from tests.samples import PLAIN, SMALLEST, made

GO, OFF, STOP = ("do", "go"), ("do", "off"), ("stop",)
QUIET = {**SMALLEST, "commands": [("x", ("m",), ("a",), (), None)]}


def world_with(*orders, window=8, cells=20, beats=2):
    """A world whose ground was asked for these orders."""
    world = World(made(PLAIN), window, cells, beats)
    for order in orders:
        world.ask(order)
    return world


def ground_side(world):
    return (world.letters(), world.waiting(), world.running(), world.known(), world.asked(), world.sent(),
            world.frames())


def told_by(world):
    return (*ground_side(world), world.standing(), world.ticks(), world.orders())


def flip_two(world, cell):
    world.flip(cell, 4)
    world.flip(cell, 38)


class RoadTest(unittest.TestCase):
    def test_at_first(self):
        for cells in (10, 400):
            world = World(made(PLAIN), 1, cells, 5)
            self.assertEqual(told_by(world), ([], None, 0, 0, [], [], [], Plain(PLAIN).first(), 0, 0))

    def test_sizes_that_are_none(self):
        for cells in (8, 9, 11, 402):
            with self.assertRaises(TooLarge):
                World(made(PLAIN), 1, cells, 1)

    def test_orders_that_are_asked_for(self):
        world = World(made(PLAIN), 2, 10, 1)
        self.assertEqual([world.ask(GO), world.ask(STOP), world.ask(GO)], [0, 1, 2])
        for order in (("do", "hop"), (), ("run", "go")):
            with self.assertRaises(InvalidInput):
                world.ask(order)
        self.assertEqual(world.asked(), [GO, STOP, GO])

    def test_numbers_on_the_road(self):
        world = world_with(GO, OFF, STOP, window=2)
        self.assertEqual(world.send(), [0, 1])
        self.assertEqual(world.letters(), [(0, ("order", 0, GO)), (1, ("order", 1, OFF))])
        self.assertEqual(world.send(), [2, 3])
        world.lose(1)
        self.assertEqual(world.double(2), 4)
        self.assertEqual(world.double(4), 5)
        world.tick(())
        self.assertEqual(world.letters(), [(0, ("order", 0, GO)), (2, ("order", 0, GO)), (3, ("order", 1, OFF)),
                                           (4, ("order", 0, GO)), (5, ("order", 0, GO)),
                                           (6, ("frame", 1, 0, "safe", ("radio",)))])
        self.assertEqual(world.double(6), 7)
        self.assertEqual(world.sent(), [(GO, 1), (OFF, 1)])

    def test_letters_that_are_none(self):
        world = world_with(GO)
        world.send()
        world.lose(0)
        before = told_by(world)
        for number in (0, 1, 7, -1):
            for deed in (world.deliver, world.lose, world.double):
                with self.assertRaises(UnknownLetter) as caught:
                    deed(number)
                self.assertEqual(caught.exception.number, number)
                self.assertIsInstance(caught.exception, FarError)
                self.assertEqual(told_by(world), before)

    def test_deeds_without_a_result(self):
        world = world_with(GO)
        world.send()
        world.double(0)
        self.assertEqual([world.deliver(0), world.lose(1), world.fall(1), world.rise(1), world.flip(3, 3)], [None] * 5)

    def test_lists_are_new(self):
        world = world_with(GO)
        world.send()
        world.tick(())
        world.deliver(1)
        before = told_by(world)
        for made_anew in (world.letters(), world.asked(), world.sent(), world.frames(), world.send()):
            made_anew.clear()
        world.lose(2)
        self.assertEqual(told_by(world), before)


class OrderLettersTest(unittest.TestCase):
    def test_the_order_waits_and_is_given(self):
        world = world_with(GO, OFF)
        world.send()
        self.assertIsNone(world.deliver(0))
        self.assertEqual((world.waiting(), world.orders()), ((0, GO), 0))
        step = world.tick(())
        self.assertIsInstance(step, Step)
        self.assertEqual((step.done, world.waiting(), world.orders()), (["go"], None, 1))
        self.assertEqual(world.tick(()).done, [])
        self.assertEqual((world.orders(), world.ticks()), (1, 2))

    def test_a_letter_while_an_order_waits(self):
        world = world_with(GO, OFF)
        world.send()
        world.double(0)
        for number in (0, 1, 2):
            world.deliver(number)
        self.assertEqual((world.waiting(), world.letters()), ((0, GO), []))
        world.tick(())
        self.assertEqual(world.orders(), 1)

    def test_numbers_that_are_not_due(self):
        world = world_with(GO, OFF, STOP, GO)
        world.send()
        for number in (1, 2, 3):
            world.deliver(number)
            self.assertIsNone(world.waiting())
        world.deliver(0)
        world.tick(())
        world.send()
        first = world.letters()[1][0]
        for number, waiting in ((0, None), (2, None), (3, None), (1, (1, OFF))):
            world.deliver(first + number)
            self.assertEqual(world.waiting(), waiting)

    def test_a_letter_while_no_side_runs(self):
        world = world_with(GO)
        world.send()
        world.double(0)
        world.fall(0)
        world.deliver(0)
        self.assertEqual((world.waiting(), len(world.letters())), (None, 1))
        # No cell has to be read for this.
        flip_two(world, 0)
        world.deliver(1)
        self.assertEqual((world.waiting(), world.letters()), (None, []))

    def test_an_order_is_given_once(self):
        world = world_with(GO)
        world.send()
        world.double(0)
        world.deliver(0)
        world.tick(())
        world.deliver(1)
        self.assertIsNone(world.waiting())
        world.tick(())
        self.assertEqual(world.orders(), 1)

    def test_a_refused_order_is_taken(self):
        world = world_with(OFF, GO)
        world.send()
        world.deliver(0)
        step = world.tick(())
        self.assertEqual((step.done, step.refused, world.orders()), ([], ["off"], 1))
        self.assertEqual(world.letters()[-1][1], ("frame", 1, 1, "safe", ("radio",)))
        world.deliver(1)
        self.assertEqual(world.waiting(), (1, GO))

    def test_the_side_that_runs_falls(self):
        world = world_with(GO)
        world.send()
        world.deliver(0)
        world.fall(1)
        self.assertEqual(world.waiting(), (0, GO))
        world.fall(0)
        self.assertIsNone(world.waiting())
        world.rise(0)
        world.tick(())
        world.tick(())
        self.assertEqual((world.running(), world.tick(()).done, world.orders()), (0, [], 0))

    def test_the_side_that_waits_falls_or_was_down(self):
        world = world_with(GO)
        world.send()
        world.deliver(0)
        world.fall(1)
        world.fall(1)
        world.rise(1)
        self.assertEqual((world.waiting(), world.tick(()).done), ((0, GO), ["go"]))

    def test_a_fall_in_the_tick(self):
        for fall, orders in ((0, 0), (1, 1), (9, 1)):
            world = world_with(GO)
            world.send()
            world.deliver(0)
            self.assertIsNone(world.tick((), fall=fall))
            self.assertEqual((world.waiting(), world.running(), world.orders(), world.ticks(), world.letters()),
                             (None, None, orders, orders, []))

    def test_cells_that_cannot_be_mended(self):
        world = world_with(GO, OFF)
        world.send()
        world.tick(())
        before = ground_side(world)
        flip_two(world, 10)
        for _ in range(2):
            with self.assertRaises(Unmendable) as caught:
                world.deliver(0)
            self.assertEqual(caught.exception.place, 10)
            self.assertEqual(ground_side(world), before)
        # A frame is delivered, lost or doubled all the same.
        world.deliver(2)
        world.lose(world.double(1))
        self.assertEqual(world.frames(), [(1, 0, "safe", ("radio",))])
        flip_two(world, 10)
        world.deliver(0)
        flip_two(world, 10)
        # An order waits, so that no number is looked at.
        world.deliver(1)
        self.assertEqual((world.waiting(), world.letters()), ((0, GO), []))
        with self.assertRaises(UnknownLetter):
            world.deliver(1)


class TickTest(unittest.TestCase):
    def test_frames_behind_ticks(self):
        world = world_with(GO)
        world.send()
        world.deliver(0)
        world.tick(("cold",))
        world.tick(())
        self.assertEqual(world.letters(), [(1, ("frame", 1, 1, "work", ("cam", "radio"))),
                                           (2, ("frame", 2, 1, "work", ("cam", "radio")))])
        world.tick((), fall=1)
        world.tick(())
        world.tick(())
        self.assertEqual(len(world.letters()), 2)
        world.tick(())
        self.assertEqual(world.letters()[2:], [(3, ("frame", 4, 1, "work", ("cam", "radio")))])

    def test_frames_are_heard(self):
        world = world_with(GO)
        world.send()
        world.deliver(0)
        world.tick(())
        world.tick(())
        for number, known in ((2, 1), (1, 1)):
            world.deliver(number)
            self.assertEqual(world.known(), known)
        self.assertEqual(world.frames(), [(1, 1, "work", ("cam", "radio")), (2, 1, "work", ("cam", "radio"))])

    def test_wrong_alarms(self):
        world = world_with(GO)
        world.send()
        world.deliver(0)
        before = told_by(world)
        for alarms in (("hot",), ("low", "cold"), ("low", "low")):
            for fall in (None, 0, 1):
                with self.assertRaises(InvalidInput):
                    world.tick(alarms, fall=fall)
                self.assertEqual(told_by(world), before)
        world.fall(0)
        world.tick(())
        for _ in range(3):
            with self.assertRaises(InvalidInput):
                world.tick(("hot",))
        self.assertIsNone(world.running())

    def test_cells_that_cannot_be_mended(self):
        world = world_with(GO)
        world.send()
        world.deliver(0)
        before = ground_side(world)
        # The first tick scrubs the cell 0, and reads the half of the cell 10.
        for cell in (10, 0, 11, 14):
            flip_two(world, cell)
            for ask in (world.standing, world.ticks, world.orders, lambda: world.tick(("cold",))):
                with self.assertRaises(Unmendable) as caught:
                    ask()
                self.assertEqual(caught.exception.place, cell)
                self.assertEqual(ground_side(world), before)
            with self.assertRaises(InvalidInput):
                world.tick(("hot",))
            flip_two(world, cell)
        self.assertEqual(world.tick(()).done, ["go"])

    def test_the_log_is_read_only_ahead_of_the_writes(self):
        # The tick fills its cell; the cell behind it is past mending, which only a reading behind the tick sees.
        world = world_with(GO)
        world.send()
        world.deliver(0)
        flip_two(world, 15)
        self.assertEqual(world.tick(()).done, ["go"])
        self.assertEqual(world.letters(), [(1, ("frame", 1, 1, "work", ("cam", "radio")))])
        with self.assertRaises(Unmendable) as caught:
            world.ticks()
        self.assertEqual(caught.exception.place, 15)

    def test_the_sort_of_a_fall(self):
        with self.assertRaises(TypeError):
            world_with().tick((), 1)


class WalksTest(unittest.TestCase):
    """Drawn deeds of all kinds, held against a world that the tests work out by themselves."""

    def walk(self, parts, seed, deeds, most_off):
        chance = random.Random(seed)
        cells = 10 + 2 * chance.randint(0, 8)
        told = (chance.randint(1, 8), cells, chance.randint(1, 5))
        world, model = World(made(parts), *told), PlainWorld(parts, *told)
        plain = Plain(parts)
        orders = [order for _, order in plain.inputs() if order is not None]
        lots = [lot for lot, order in plain.inputs() if order is None]
        taken = []
        for _ in range(deeds):
            for name, arguments in self.drawn(chance, model, cells, orders, lots, most_off):
                self.do(world, model, name, arguments)
            self.compare(world, model)
            if len(model.craft.taken) > len(taken):
                self.assertEqual(model.craft.taken[:-1], taken)
                taken = list(model.craft.taken)
        return world, model

    def drawn(self, chance, model, cells, orders, lots, most_off):
        """Drawn deeds: their names and arguments."""
        numbers = [number for number, _ in model.road]
        name = chance.choice(["ask", "send", "lose", "double", "fall", "flip", "flip"] + ["rise"] * 3 + ["tick"] * 5
                             + ["deliver"] * 6)
        if name == "ask":
            return [("ask", (chance.choice(orders),))]
        due = [number for number, letter in model.road if letter[:2] == ("order", len(model.craft.orders()))]
        if name == "deliver" and due and chance.random() < 0.5:
            return [("deliver", (chance.choice(due),))]
        if name in ("deliver", "lose", "double"):
            return [(name, (chance.choice(numbers),))] if numbers and (name != "double" or len(numbers) < 30) else []
        if name == "tick":
            return [("tick", (chance.choice(lots), chance.choice([None] * 50 + [0, 1, 2, 3, 4, 5])))]
        if name in ("fall", "rise"):
            return [(name, (chance.randint(0, 1),))] if name == "rise" or chance.random() < 0.4 else []
        if name == "flip":
            cell, place = chance.randrange(cells), chance.randrange(39)
            off = model.craft.off.get(cell, set())
            return [("flip", (cell, place))] if len(off ^ {place}) <= most_off else []
        return [("send", ())]

    def do(self, world, model, name, arguments):
        """The deed in both worlds, which have to answer alike."""
        if name == "ask":
            self.assertEqual(world.ask(*arguments), len(model.ground.asked))
            model.ground.asked.append(*arguments)
            return
        if name in ("rise", "flip"):
            getattr(world, name)(*arguments)
            getattr(model.craft, name)(*arguments)
            return
        deed = getattr(world, name)
        if name == "tick":
            arguments, fall = arguments[:1], arguments[1]
            answer = self.both(lambda: deed(*arguments, fall=fall), lambda: model.tick(*arguments, fall=fall))
            if answer is not None:
                step, expected = answer
                got = None if step is None else (step.standing, step.done, step.refused, step.moments)
                self.assertEqual(got, expected)
            return
        answer = self.both(lambda: deed(*arguments), lambda: getattr(model, name)(*arguments))
        if answer is not None:
            self.assertEqual(*answer)

    def both(self, deed, expected):
        """The answers of both deeds, or None if both raise for the same cell."""
        try:
            told = expected()
        except PlainUnmendable as unmendable:
            with self.assertRaises(Unmendable) as caught:
                deed()
            self.assertEqual(caught.exception.place, unmendable.args[0])
            return None
        return deed(), told

    def compare(self, world, model):
        ground, craft = model.ground, model.craft
        self.assertEqual(ground_side(world), (model.road, model.waiting, craft.runs, ground.known(), ground.asked,
                                              ground.sent(), ground.heard))
        told = self.both(lambda: (world.standing(), world.ticks(), world.orders()),
                         lambda: craft.check(craft.cells_read()))
        if told is not None:
            self.assertEqual(told[0], (craft.standing(), len(craft.taken), len(craft.orders())))

    def check_promises(self, world, model):
        """Point [45], of a world in which at most one place of a cell was off."""
        plain, taken = model.craft.plain, model.craft.taken
        orders = [order for _, order in taken if order is not None]
        self.assertEqual(orders, world.asked()[:world.orders()])
        self.assertLessEqual(world.known(), world.orders())
        self.assertLessEqual(world.orders(), len(world.sent()))
        frames = [letter[1:] for _, letter in world.letters() if letter[0] == "frame"]
        for tick, count, mode, lot in [*frames, *world.frames()]:
            row = taken[:tick]
            self.assertEqual(len(row), tick)
            self.assertEqual(sum(order is not None for _, order in row), count)
            self.assertEqual(plain.behind(plain.first(), row)[:2], (mode, lot))
        for frame in frames:
            self.assertIs(model.ground.can_be(frame), True)

    def test_at_most_one_place_of_a_cell_off(self):
        taken = known = 0
        for seed in range(40):
            world, model = self.walk(parts_by_chance(seed, rows=2, alarms=2), seed, 150, 1)
            self.check_promises(world, model)
            taken += world.orders()
            known += world.known()
        self.assertGreater(taken, 100)
        self.assertGreater(known, 60)

    def test_two_places_of_a_cell_off(self):
        for seed in range(20):
            self.walk(PLAIN, seed, 100, 2)

    def test_settling_behind_a_walk(self):
        settled = 0
        for seed in range(60):
            world, model = self.walk(parts_by_chance(seed), seed, 60, 1)
            unknown = len(world.asked()) - world.known()
            most = unknown + 1 + (model.craft.beats if world.running() is None else 0)
            answer = world.settle()
            rounds = model.settle()
            self.assertLessEqual(rounds, most)
            self.assertIs(answer, model.is_settled())
            self.assertIs(answer, any(model.craft.up) or unknown == 0)
            self.compare(world, model)
            self.check_promises(world, model)
            settled += rounds > 1
        self.assertGreater(settled, 10)


class SettleTest(unittest.TestCase):
    def test_nothing_is_open(self):
        world = world_with()
        self.assertIs(world.settle(), True)
        self.assertEqual(told_by(world), told_by(world_with()))
        world.fall(0)
        world.fall(1)
        self.assertIs(world.settle(), True)

    def test_no_side_is_up(self):
        world = world_with(GO)
        world.send()
        world.fall(0)
        world.fall(1)
        before = told_by(world)
        self.assertIs(world.settle(), False)
        self.assertEqual(told_by(world), before)

    def test_rounds(self):
        for window in (1, 2, 8):
            for many in (1, 3, 9):
                world = world_with(*[GO, OFF, STOP] * (many // 3), *[GO] * (many % 3), window=window)
                self.assertIs(world.settle(), True)
                # Each round takes one order.
                self.assertEqual((world.known(), world.orders(), world.ticks()), (many, many, many))
                self.assertEqual(world.letters(), [])
                self.assertEqual([frame[:2] for frame in world.frames()], [(at, at) for at in range(1, many + 1)])

    def test_settling_twice(self):
        world = world_with(GO, OFF)
        self.assertIs(world.settle(), True)
        before = told_by(world)
        self.assertIs(world.settle(), True)
        self.assertEqual(told_by(world), before)
        world.ask(STOP)
        self.assertIs(world.settle(), True)
        self.assertEqual((world.orders(), world.ticks()), (3, 3))

    def test_no_side_runs_at_first(self):
        for beats in range(1, 6):
            world = world_with(GO, beats=beats)
            world.fall(0)
            self.assertIs(world.settle(), True)
            # Each dead tick is a round, and loses the letter of the round.
            self.assertEqual((world.running(), world.orders(), world.ticks()), (1, 1, 1))
            self.assertEqual((world.known(), world.letters()), (1, []))

    def test_letters_on_the_road(self):
        world = world_with(GO, OFF, STOP, window=2)
        world.send()
        world.deliver(0)
        world.tick(())
        world.send()
        world.double(1)
        self.assertIs(world.settle(), True)
        self.assertEqual((world.letters(), world.orders(), world.known()), ([], 3, 3))
        self.assertEqual(world.frames()[0][:2], (1, 1))

    def test_the_craft_has_taken_all_that_the_window_lets(self):
        # The first round only tells what was taken, and the ones behind it do the rest.
        world = world_with(GO, OFF, STOP, GO, window=2)
        for number in (0, 1):
            sent = world.send()
            world.deliver(sent[number])
            world.tick(())
            for letter, _ in world.letters():
                world.lose(letter)
        self.assertEqual((world.known(), world.orders(), world.ticks()), (0, 2, 2))
        self.assertIs(world.settle(), True)
        self.assertEqual((world.known(), world.orders(), world.ticks()), (4, 4, 5))

    def test_a_round_is_one_tick_without_alarms(self):
        world = World(made(QUIET), 1, 10, 1)
        world.ask(("do", "x"))
        self.assertIs(world.settle(), True)
        self.assertEqual((world.standing(), world.ticks()), (("m", ("a",), None, 0, 0, 0), 1))

    def test_cells_that_cannot_be_mended(self):
        world = world_with(GO, OFF, STOP, window=1)
        flip_two(world, 16)
        with self.assertRaises(Unmendable) as caught:
            world.settle()
        self.assertEqual(caught.exception.place, 16)
        # Two rounds, and the sending and the delivering of the third one.
        self.assertEqual((world.known(), len(world.sent()), len(world.frames())), (2, 3, 2))
        self.assertEqual(world.letters(), [(4, ("order", 2, STOP))])
        self.assertIsNone(world.waiting())
        flip_two(world, 16)
        self.assertIs(world.settle(), True)

    def test_three_places_of_a_cell_off(self):
        # What the log tells is wrong then, and the ground never knows what it waits for; but the rounds have an end.
        world = world_with(GO, OFF)
        for place in (0, 3, 5):
            world.flip(13, place)
        self.assertNotEqual(world.orders(), 0)
        self.assertIs(world.settle(), False)
        self.assertEqual((world.known(), world.waiting()), (0, None))

    def test_a_scrubbing_that_raises(self):
        world = world_with(GO, OFF, STOP, window=1)
        flip_two(world, 2)
        with self.assertRaises(Unmendable) as caught:
            world.settle()
        self.assertEqual(caught.exception.place, 2)
        self.assertEqual((world.known(), world.orders(), world.waiting(), world.letters()), (2, 2, (2, STOP), []))
        flip_two(world, 2)
        self.assertIs(world.settle(), True)
        self.assertEqual(world.orders(), 3)


if __name__ == "__main__":
    unittest.main()
