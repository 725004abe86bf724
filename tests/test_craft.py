"""Points [36] to [39]: the craft."""

import copy
import random
import unittest

from farword.craft import Craft
from farword.errors import FarError, InvalidInput, TooLarge, Unmendable
from farword.steps import Step
from tests.plain import Plain, parts_by_chance
from tests.plain_world import PlainCraft, PlainUnmendable
from tests.samples import FULL, PLAIN, SMALLEST, made

WRONG = [(("hot",), None), (("low", "cold"), None), ((), ("do", "hop")), ((), ("run", "go")), ((), ())]
NOTHING = ((), None)


def told_by(craft):
    """All that a craft tells."""
    return (craft.standing(), craft.ticks(), craft.orders(), craft.inputs(), craft.running(),
            craft.is_up(0), craft.is_up(1))


def shown(step):
    """What a Step has, or None."""
    return None if step is None else (step.standing, step.done, step.refused, step.moments)


def flip_two(craft, cell):
    craft.flip(cell, 4)
    craft.flip(cell, 38)


class BeginTest(unittest.TestCase):
    def test_the_example(self):
        book = made(SMALLEST, holds=["heat"], modes=[("safe", (), ("heat",))],
                    commands=[("warm", ("safe",), ("heat",), (), None)])
        craft = Craft(book, 10, 2)
        self.assertEqual([craft.tick((), ("do", "warm")).done, craft.tick((), None, fall=0), craft.running()],
                         [["warm"], None, None])
        self.assertEqual([craft.tick((), None), craft.tick((), None), craft.running(), craft.ticks(),
                          craft.standing()], [None, None, 1, 1, ("safe", ("heat",), None, 0, 0, 0)])

    def test_at_first(self):
        for parts in (SMALLEST, PLAIN, FULL):
            for cells in (10, 12, 400):
                for beats in (1, 5):
                    craft = Craft(made(parts), cells, beats)
                    self.assertEqual(told_by(craft), (Plain(parts).first(), 0, 0, [], 0, True, True))

    def test_sizes_that_are_none(self):
        for cells in (-10, 0, 1, 2, 8, 9, 11, 399, 401, 402, 500):
            with self.assertRaises(TooLarge) as caught:
                Craft(made(PLAIN), cells, 1)
            self.assertIsInstance(caught.exception, FarError)

    def test_crafts_share_nothing(self):
        one, other = Craft(made(PLAIN), 10, 1), Craft(made(PLAIN), 10, 1)
        before = told_by(other)
        one.tick(("cold",), ("stop",))
        one.fall(0)
        flip_two(one, 0)
        self.assertEqual(told_by(other), before)


class TickTest(unittest.TestCase):
    def test_a_step_is_told(self):
        craft, plain = Craft(made(PLAIN), 10, 1), Plain(PLAIN)
        standing = plain.first()
        for at, told in enumerate([((), ("do", "go")), (("cold", "low"), ("run", "plan")), ((), ("do", "off")),
                                   NOTHING, NOTHING]):
            step = craft.tick(*told)
            self.assertIsInstance(step, Step)
            self.assertEqual(shown(step), plain.tick(standing, *told))
            standing = step.standing
            self.assertEqual((craft.standing(), craft.ticks()), (standing, at + 1))
        self.assertEqual(craft.orders(), 3)

    def test_the_sort_of_a_fall(self):
        craft = Craft(made(PLAIN), 10, 1)
        self.assertIsNotNone(craft.tick((), None, fall=None))
        self.assertIsNone(craft.tick((), None, fall=3))
        with self.assertRaises(TypeError):
            craft.tick((), None, 3)

    def test_lists_are_new(self):
        craft = Craft(made(PLAIN), 14, 1)
        craft.tick((), ("stop",))
        craft.inputs().clear()
        self.assertEqual(craft.inputs(), [((), ("stop",))])
        craft.tick((), ("do", "go")).done.clear()
        self.assertEqual(craft.tick((), ("do", "go")).refused, ["go"])

    def test_rounds(self):
        for cells in (10, 12, 400):
            craft, room, taken = Craft(made(PLAIN), cells, 1), cells // 2 - 4, []
            chance = random.Random(cells)
            for at in range(2 * room + 3):
                taken.append(chance.choice(Plain(PLAIN).inputs()))
                craft.tick(*taken[-1])
                self.assertEqual(craft.inputs(), taken[at // room * room:])
            self.assertEqual(craft.ticks(), len(taken))
            self.assertEqual(craft.orders(), sum(order is not None for _, order in taken))
            self.assertEqual(craft.standing(), Plain(PLAIN).behind(Plain(PLAIN).first(), taken))


class FallInTickTest(unittest.TestCase):
    """Ticks with a fall behind so many writes, where the log has one write to make, and where it has five."""

    def check(self, ahead, fall, ticks, inputs):
        """Behind so many ticks, in a craft with room for one input, one more tick with a fall."""
        craft, plain = Craft(made(PLAIN), 10, 1), Plain(PLAIN)
        taken = [((), ("do", "go")), (("cold",), None), ((), ("run", "plan"))][:ahead]
        for told in taken:
            craft.tick(*told)
        last = ((), ("do", "warm"))
        self.assertIsNone(craft.tick(*last, fall=fall))
        self.assertEqual((craft.running(), craft.is_up(0), craft.is_up(1)), (None, False, True))
        row = [*taken, last][:ticks]
        self.assertEqual((craft.ticks(), craft.inputs()), (ticks, inputs))
        self.assertEqual(craft.standing(), plain.behind(plain.first(), row))
        self.assertEqual(craft.orders(), sum(order is not None for _, order in row))

    def test_one_write(self):
        self.check(0, 0, 0, [])
        for fall in (1, 2, 5, 100):
            self.check(0, fall, 1, [((), ("do", "warm"))])

    def test_five_writes(self):
        for fall in (0, 1, 2, 3):
            self.check(1, fall, 1, [((), ("do", "go"))])
        self.check(1, 4, 1, [])
        for fall in (5, 6, 100):
            self.check(1, fall, 2, [((), ("do", "warm"))])
        self.check(2, 3, 2, [(("cold",), None)])
        self.check(2, 4, 2, [])
        self.check(3, 5, 4, [((), ("do", "warm"))])

    def test_one_write_behind_a_head_that_is_whole(self):
        craft = Craft(made(PLAIN), 10, 1)
        craft.tick((), ("do", "go"))
        craft.tick((), ("stop",), fall=4)
        craft.tick((), None)
        self.assertEqual((craft.running(), craft.ticks(), craft.inputs()), (1, 1, []))
        craft.tick((), ("stop",), fall=1)
        self.assertEqual((craft.running(), craft.ticks(), craft.inputs()), (None, 2, [((), ("stop",))]))

    def test_a_dead_tick_takes_no_fall(self):
        craft = Craft(made(PLAIN), 10, 2)
        craft.fall(0)
        self.assertIsNone(craft.tick((), ("stop",), fall=1))
        self.assertIsNone(craft.tick((), ("stop",), fall=0))
        self.assertEqual((craft.running(), craft.ticks(), craft.is_up(1)), (1, 0, True))


class SidesTest(unittest.TestCase):
    def dead(self, craft, many):
        for _ in range(many):
            self.assertIsNone(craft.running())
            self.assertIsNone(craft.tick(("cold",), ("do", "go")))

    def test_the_one_that_waits_takes_over(self):
        for beats in range(1, 6):
            craft = Craft(made(PLAIN), 10, beats)
            craft.tick((), ("do", "go"))
            before = told_by(craft)[:4]
            craft.fall(0)
            self.dead(craft, beats)
            self.assertEqual(told_by(craft), (*before, 1, False, True))
            self.assertIsNotNone(craft.tick((), None))

    def test_the_tick_of_a_fall_is_no_dead_tick(self):
        for fall in (0, 1):
            craft = Craft(made(PLAIN), 10, 3)
            craft.tick((), None, fall=fall)
            self.dead(craft, 3)
            self.assertEqual(craft.running(), 1)

    def test_the_one_that_waits_falls(self):
        craft = Craft(made(PLAIN), 10, 1)
        craft.fall(1)
        self.assertEqual((craft.running(), craft.is_up(0), craft.is_up(1)), (0, True, False))
        self.assertIsNotNone(craft.tick((), None))
        craft.fall(0)
        self.dead(craft, 9)
        self.assertIsNone(craft.running())

    def test_both_are_down(self):
        craft = Craft(made(PLAIN), 10, 2)
        craft.tick((), ("do", "go"))
        before = told_by(craft)[:4]
        craft.fall(0)
        craft.fall(1)
        self.dead(craft, 7)
        self.assertEqual(told_by(craft), (*before, None, False, False))
        craft.rise(1)
        self.dead(craft, 1)
        craft.rise(0)
        self.dead(craft, 1)
        self.assertEqual(told_by(craft), (*before, 1, True, True))

    def test_side_0_ahead_of_side_1(self):
        craft = Craft(made(PLAIN), 10, 2)
        craft.fall(0)
        craft.rise(0)
        self.dead(craft, 2)
        self.assertEqual(craft.running(), 0)
        # The count of side 1, too, is 0 from then on.
        craft.fall(0)
        self.dead(craft, 2)
        self.assertEqual(craft.running(), 1)

    def test_a_side_that_rises_begins_to_count(self):
        craft = Craft(made(PLAIN), 10, 3)
        craft.fall(0)
        self.dead(craft, 2)
        craft.rise(0)
        self.dead(craft, 1)
        self.assertEqual(craft.running(), 1)
        craft = Craft(made(PLAIN), 10, 3)
        craft.fall(0)
        self.dead(craft, 2)
        craft.fall(1)
        craft.rise(1)
        self.dead(craft, 2)
        self.assertIsNone(craft.running())
        self.dead(craft, 1)
        self.assertEqual(craft.running(), 1)

    def test_a_rising_of_one_that_is_up_is_none(self):
        craft = Craft(made(PLAIN), 10, 3)
        craft.rise(0)
        craft.rise(1)
        self.assertEqual((craft.running(), craft.is_up(0), craft.is_up(1)), (0, True, True))
        craft.fall(0)
        self.dead(craft, 2)
        craft.rise(1)
        self.dead(craft, 1)
        self.assertEqual(craft.running(), 1)

    def test_a_fall_of_one_that_is_down_is_none(self):
        craft = Craft(made(PLAIN), 10, 3)
        craft.fall(0)
        self.dead(craft, 2)
        craft.fall(0)
        self.dead(craft, 1)
        self.assertEqual(craft.running(), 1)

    def test_a_tick_in_which_a_side_runs_sets_counts_to_0(self):
        craft = Craft(made(PLAIN), 10, 3)
        craft.fall(0)
        self.dead(craft, 1)
        craft.rise(0)
        self.dead(craft, 2)
        self.assertEqual(craft.running(), 1)
        craft.tick((), None)
        craft.tick((), None, fall=0)
        self.dead(craft, 2)
        self.assertIsNone(craft.running())
        self.dead(craft, 1)
        self.assertEqual(craft.running(), 0)

    def test_one_that_is_chosen_and_falls_ahead_of_its_first_tick(self):
        craft = Craft(made(PLAIN), 10, 3)
        craft.fall(0)
        self.dead(craft, 1)
        craft.rise(0)
        self.dead(craft, 2)
        self.assertEqual(craft.running(), 1)
        craft.fall(1)
        # Side 0 had counted two of three, and begins again.
        self.dead(craft, 3)
        self.assertEqual((craft.running(), craft.ticks()), (0, 0))

    def test_a_dead_tick_changes_no_holds(self):
        craft = Craft(made(PLAIN), 12, 5)
        craft.tick((), ("do", "warm"))
        standing = craft.standing()
        craft.fall(0)
        self.dead(craft, 4)
        self.assertEqual((craft.standing(), craft.ticks(), craft.orders()), (standing, 1, 1))


class ScrubTest(unittest.TestCase):
    def test_the_cell_of_each_tick(self):
        # Two places off are seen by the scrubbing of just this cell, where reading does not come by it.
        for cells, expected in ((10, 4), (14, 12), (20, 18)):
            seen = {}
            for cell in range(cells):
                craft = Craft(made(SMALLEST), cells, 1)
                for _ in range(3 * cells):
                    if cell not in self.cells_read(craft, cells):
                        flip_two(craft, cell)
                        if self.check_scrubbing(craft, cell, cells):
                            seen[cell] = True
                        flip_two(craft, cell)
                    craft.tick((), None)
            # The first cells of the halves are read in each tick, and in the smallest craft half of the other ones.
            self.assertEqual(len(seen), expected)

    def cells_read(self, craft, cells):
        room = cells // 2 - 4
        model = PlainCraft(SMALLEST, cells, 1)
        model.turn = 1 + max(craft.ticks() - 1, 0) // room
        model.in_round = len(craft.inputs())
        return model.cells_read()

    def check_scrubbing(self, craft, cell, cells):
        """Whether the cell, which has two places off, is the one that the next tick scrubs."""
        due = craft.ticks() % cells == cell
        twin = copy.deepcopy(craft)
        before = told_by(twin)
        if due:
            with self.assertRaises(Unmendable) as caught:
                twin.tick((), None)
            self.assertEqual(caught.exception.place, cell)
            self.assertEqual(told_by(twin), before)
        else:
            self.assertIsNotNone(twin.tick((), None))
        return due

    def test_a_place_that_was_scrubbed_is_off_no_more(self):
        craft = Craft(made(SMALLEST), 20, 1)
        for told in range(45):
            cell = craft.ticks() % 20
            craft.flip(cell, 7)
            craft.tick((), None)
            craft.flip(cell, 8)
            self.assertEqual(craft.ticks(), told + 1)
            craft.flip(cell, 8)

    def test_a_tick_with_a_fall_scrubs(self):
        craft = Craft(made(SMALLEST), 20, 1)
        craft.flip(0, 7)
        craft.tick((), None, fall=0)
        craft.flip(0, 8)
        self.assertEqual(craft.ticks(), 0)

    def test_a_dead_tick_scrubs_nothing(self):
        craft = Craft(made(SMALLEST), 20, 5)
        craft.fall(0)
        craft.flip(0, 7)
        craft.tick((), None)
        craft.flip(0, 8)
        with self.assertRaises(Unmendable):
            craft.ticks()


class ErrorsTest(unittest.TestCase):
    def check_wrong(self, craft):
        for alarms, order in WRONG:
            for fall in (None, 0, 1):
                with self.assertRaises(InvalidInput):
                    craft.tick(alarms, order, fall=fall)

    def test_wrong_inputs(self):
        craft = Craft(made(PLAIN), 10, 2)
        craft.tick((), ("do", "go"))
        before = told_by(craft)
        self.check_wrong(craft)
        self.assertEqual(told_by(craft), before)

    def test_wrong_inputs_while_no_side_runs(self):
        craft = Craft(made(PLAIN), 10, 2)
        craft.fall(0)
        craft.tick((), None)
        self.check_wrong(craft)
        # None of these ticks was counted.
        self.assertIsNone(craft.running())
        craft.tick((), None)
        self.assertEqual(craft.running(), 1)

    def test_the_order_of_the_errors(self):
        craft = Craft(made(PLAIN), 20, 1)
        for _ in range(9):
            craft.tick((), ("stop",))
        before = told_by(craft)
        read = [0, 10, 1, 2, 3, 4, 5, 6, 7]
        # The scrubbing would come to the cell 9, which is not read.
        for cell in [*read, 9, 8, 11]:
            flip_two(craft, cell)
        for cell in [*read, 9]:
            self.check_wrong(craft)
            for fall in (None, 0, 5):
                with self.assertRaises(Unmendable) as caught:
                    craft.tick((), None, fall=fall)
                self.assertEqual(caught.exception.place, cell)
            self.assertEqual((craft.running(), craft.is_up(0)), (0, True))
            flip_two(craft, cell)
        self.assertEqual(told_by(craft), before)
        self.assertIsNotNone(craft.tick((), None))

    def test_what_the_log_tells_raises_too(self):
        craft = Craft(made(PLAIN), 10, 1)
        flip_two(craft, 5)
        for ask in (craft.standing, craft.ticks, craft.orders, craft.inputs):
            with self.assertRaises(Unmendable) as caught:
                ask()
            self.assertEqual(caught.exception.place, 5)
        self.assertEqual((craft.running(), craft.is_up(0), craft.is_up(1)), (0, True, True))
        craft.flip(5, 4)
        self.assertEqual(craft.ticks(), 0)

    def test_a_dead_tick_reads_nothing(self):
        craft = Craft(made(PLAIN), 10, 2)
        flip_two(craft, 0)
        craft.fall(0)
        self.assertEqual([craft.tick((), None), craft.tick((), None), craft.running()], [None, None, 1])
        with self.assertRaises(Unmendable):
            craft.tick((), None)
        self.assertEqual(craft.running(), 1)

    def test_a_tick_that_raises_is_none_for_the_counts(self):
        craft = Craft(made(PLAIN), 10, 2)
        craft.fall(0)
        craft.tick((), None)
        craft.tick((), None)
        flip_two(craft, 0)
        with self.assertRaises(Unmendable):
            craft.tick((), None, fall=0)
        self.assertEqual((craft.running(), craft.is_up(1)), (1, True))


class WalksTest(unittest.TestCase):
    """Drawn ticks, falls, risings and flips, held against a craft that the tests work out by themselves."""

    def walk(self, parts, cells, beats, seed, deeds, most_off):
        chance = random.Random(seed)
        craft, model = Craft(made(parts), cells, beats), PlainCraft(parts, cells, beats)
        inputs = Plain(parts).inputs()
        raised = 0
        for _ in range(deeds):
            deed = chance.random()
            if deed < 0.6:
                told = chance.choice(inputs)
                fall = chance.choice([None] * 30 + [0, 1, 2, 3, 4, 5, 6])
                raised += self.tick(craft, model, told, fall)
            elif deed < 0.64:
                side = chance.randint(0, 1)
                craft.fall(side)
                model.fall(side)
            elif deed < 0.85:
                side = chance.randint(0, 1)
                craft.rise(side)
                model.rise(side)
            else:
                cell, place = chance.randrange(cells), chance.randrange(39)
                if len(model.off.get(cell, set()) ^ {place}) <= most_off:
                    craft.flip(cell, place)
                    model.flip(cell, place)
            self.compare(craft, model)
        return raised, len(model.taken)

    def tick(self, craft, model, told, fall):
        """One tick of both; whether it raised."""
        try:
            expected = model.tick(told, fall)
        except PlainUnmendable as unmendable:
            with self.assertRaises(Unmendable) as caught:
                craft.tick(*told, fall=fall)
            self.assertEqual(caught.exception.place, unmendable.args[0])
            return True
        self.assertEqual(shown(craft.tick(*told, fall=fall)), expected)
        return False

    def compare(self, craft, model):
        self.assertEqual((craft.running(), craft.is_up(0), craft.is_up(1)), (model.runs, *model.up))
        try:
            model.check(model.cells_read())
        except PlainUnmendable as unmendable:
            with self.assertRaises(Unmendable) as caught:
                craft.ticks()
            self.assertEqual(caught.exception.place, unmendable.args[0])
            return
        self.assertEqual(told_by(craft)[:4], (model.standing(), len(model.taken), len(model.orders()),
                                              model.inputs()))

    def test_at_most_one_place_of_a_cell_off(self):
        taken = 0
        for seed in range(24):
            parts = parts_by_chance(seed, rows=2, alarms=2)
            raised, ticks = self.walk(parts, 10 + 2 * (seed % 4), 1 + seed % 5, seed, 150, 1)
            self.assertEqual(raised, 0)
            taken += ticks
        self.assertGreater(taken, 600)

    def test_a_large_craft(self):
        for seed, cells in ((1, 400), (2, 60)):
            raised, ticks = self.walk(PLAIN, cells, 2, seed, 300, 1)
            self.assertEqual(raised, 0)
            self.assertGreater(ticks, 60)

    def test_two_places_of_a_cell_off(self):
        raised = 0
        for seed in range(12):
            raised += self.walk(PLAIN, 10 + 2 * (seed % 3), 1, seed, 120, 2)[0]
        self.assertGreater(raised, 20)


if __name__ == "__main__":
    unittest.main()
