"""Points [4], [21], [22] and [23]: effects, the four things of a tick, moments and what a tick shows."""

import random
import unittest

from farword.errors import FarError, InvalidInput, InvalidStanding
from farword.steps import first_standing, run_of, tick
from tests.plain import Plain, parts_by_chance
from tests.samples import PLAIN, SMALLEST, made

EXAMPLE = {
    "holds": ["cam", "heat"],
    "modes": [("safe", (), ("cam",)), ("work", ("cam",), ("heat",))],
    "barred": [("cam", "heat")],
    "commands": [("go", ("safe",), (), (), "work"), ("warm", ("safe",), ("heat",), (), None)],
    "alarms": [("cold", ("heat",), (), "safe")],
    "rows": [("plan", ((2, "go"), (1, "warm")))],
    "quiet": 4,
}

# A book in which each thing can be told from each other one: a to f are holds.
WIDE = {
    "holds": ["a", "b", "c", "d"],
    "modes": [("safe", ("a",), ("b",)), ("work", ("b",), ("a", "c")), ("idle", (), ())],
    "barred": [],
    "commands": [("on", ("idle", "safe"), ("c",), ("d",), None), ("off", ("work",), ("d",), ("c",), None),
                 ("work", ("safe",), ("c", "d"), (), "work"), ("home", ("idle", "work"), (), (), "safe"),
                 ("same", ("safe", "work"), (), (), None), ("never", (), ("d",), (), "idle")],
    "alarms": [("two", ("d",), ("c",), None), ("one", ("c",), ("d",), None), ("rest", (), ("a",), "idle"),
               ("back", ("b",), (), "safe")],
    "rows": [("long", ((1, "on"), (2, "work"), (1, "off"))), ("short", ((1, "same"),)), ("lost", ((1, "never"),) * 2)],
    "quiet": 3,
}
NO_ROW = (None, 0, 0)


class TickTest(unittest.TestCase):
    """Ticks of the wide book."""

    def setUp(self):
        self.book = made(WIDE)

    def check(self, standing, alarms, order, behind, done=(), refused=(), moments=()):
        step = tick(self.book, standing, alarms, order)
        told = (step.standing, step.done, step.refused, step.moments)
        self.assertEqual(told, (behind, list(done), list(refused), list(moments)))


class AlarmsTest(TickTest):
    def test_an_alarm_turns_off_and_on(self):
        self.check(("idle", ("a", "c"), *NO_ROW, 0), ("two",), None, ("idle", ("a", "d"), *NO_ROW, 1),
                   moments=[("a", "d")])

    def test_an_alarm_that_leads_to_a_mode_is_one_moment(self):
        self.check(("work", ("a", "b", "d"), *NO_ROW, 0), ("rest",), None, ("idle", ("b", "d"), *NO_ROW, 1),
                   moments=[("b", "d")])
        # The safe mode turns b off again, which the alarm turns on ahead of it.
        self.check(("work", ("b", "d"), *NO_ROW, 0), ("back",), None, ("safe", ("a", "d"), *NO_ROW, 1),
                   moments=[("a", "d")])

    def test_several_alarms_in_the_order_of_the_book(self):
        self.check(("idle", (), *NO_ROW, 0), ("one", "two"), None, ("idle", ("c",), *NO_ROW, 1),
                   moments=[("d",), ("c",)])
        self.check(("work", ("b",), *NO_ROW, 0), ("back", "one", "rest", "two"), None, ("safe", ("a", "c"), *NO_ROW, 1),
                   moments=[("b", "d"), ("b", "c"), ("b", "c"), ("a", "c")])
        self.book = made(WIDE, alarms=WIDE["alarms"][::-1])
        self.check(("idle", (), *NO_ROW, 0), ("one", "two"), None, ("idle", ("d",), *NO_ROW, 1),
                   moments=[("c",), ("d",)])

    def test_an_alarm_stops_the_row(self):
        for row in (("long", 0, 1), ("long", 1, 2), ("short", 0, 1)):
            self.check(("idle", (), *row, 0), ("one",), None, ("idle", ("c",), *NO_ROW, 1), moments=[("c",)])

    def test_an_alarm_without_an_effect_stops_the_row_too(self):
        self.book = made(WIDE, alarms=[("none", (), (), None)])
        self.check(("idle", ("a",), "long", 1, 1, 0), ("none",), None, ("idle", ("a",), *NO_ROW, 1), moments=[("a",)])

    def test_alarms_leave_the_silence(self):
        self.check(("idle", (), *NO_ROW, 1), ("one",), None, ("idle", ("c",), *NO_ROW, 2), moments=[("c",)])


class OrdersTest(TickTest):
    def test_a_command_that_is_let(self):
        self.check(("safe", ("a", "d"), *NO_ROW, 2), (), ("do", "on"), ("safe", ("a", "c"), *NO_ROW, 0), done=["on"],
                   moments=[("a", "c")])

    def test_a_command_that_leads_to_a_mode(self):
        self.check(("safe", ("a",), *NO_ROW, 1), (), ("do", "work"), ("work", ("b", "d"), *NO_ROW, 0), done=["work"],
                   moments=[("b", "d")])

    def test_a_mode_is_entered_anew(self):
        self.check(("work", ("a", "c"), *NO_ROW, 0), (), ("do", "home"), ("safe", ("a", "c"), *NO_ROW, 0),
                   done=["home"], moments=[("a", "c")])
        self.book = made(WIDE, commands=[("again", ("work",), ("a",), (), "work")], rows=[])
        self.check(("work", ("a", "c"), *NO_ROW, 0), (), ("do", "again"), ("work", ("b",), *NO_ROW, 0),
                   done=["again"], moments=[("b",)])

    def test_a_command_that_changes_nothing_is_a_moment(self):
        self.check(("work", ("c",), *NO_ROW, 0), (), ("do", "same"), ("work", ("c",), *NO_ROW, 0), done=["same"],
                   moments=[("c",)])

    def test_a_command_that_is_refused(self):
        self.check(("idle", ("d",), *NO_ROW, 2), (), ("do", "work"), ("idle", ("d",), *NO_ROW, 0), refused=["work"])
        self.check(("safe", ("d",), *NO_ROW, 0), (), ("do", "never"), ("safe", ("d",), *NO_ROW, 0), refused=["never"])

    def test_the_mode_behind_the_alarms_counts(self):
        self.check(("safe", (), *NO_ROW, 0), ("rest",), ("do", "work"), ("idle", (), *NO_ROW, 0), refused=["work"],
                   moments=[()])
        self.check(("idle", (), *NO_ROW, 0), ("back",), ("do", "work"), ("work", ("b", "d"), *NO_ROW, 0), done=["work"],
                   moments=[("a",), ("b", "d")])

    def test_a_row_is_begun(self):
        self.check(("work", ("c",), *NO_ROW, 2), (), ("run", "long"), ("work", ("c",), "long", 0, 1, 0))
        self.check(("work", ("c",), "long", 2, 1, 2), (), ("run", "long"), ("work", ("c",), "long", 0, 1, 0))
        self.check(("work", ("c",), "long", 1, 1, 2), (), ("run", "short"), ("work", ("c",), "short", 0, 1, 0))
        self.check(("idle", ("c",), "long", 1, 1, 2), ("two",), ("run", "long"), ("idle", ("d",), "long", 0, 1, 0),
                   moments=[("d",)])

    def test_a_row_is_stopped(self):
        self.check(("work", ("c",), "long", 1, 1, 2), (), ("stop",), ("work", ("c",), *NO_ROW, 0))
        self.check(("work", ("c",), *NO_ROW, 2), (), ("stop",), ("work", ("c",), *NO_ROW, 0))
        self.check(("work", ("c",), "short", 0, 1, 2), (), ("stop",), ("work", ("c",), *NO_ROW, 0))

    def test_a_command_goes_ahead_of_the_step_of_the_row(self):
        self.check(("safe", ("a",), "long", 0, 1, 2), (), ("do", "work"), ("work", ("b", "d"), "long", 1, 2, 0),
                   done=["work"], moments=[("b", "d")])
        self.check(("safe", ("a",), "long", 1, 1, 2), (), ("do", "on"), ("work", ("b", "d"), "long", 2, 1, 0),
                   done=["on", "work"], moments=[("a", "c"), ("b", "d")])
        self.check(("safe", (), "short", 0, 1, 0), (), ("do", "same"), ("safe", (), *NO_ROW, 0),
                   done=["same", "same"], moments=[(), ()])

    def test_a_refused_command_lets_the_row_go_on(self):
        self.check(("safe", (), "long", 0, 1, 2), (), ("do", "off"), ("safe", ("c",), "long", 1, 2, 0), done=["on"],
                   refused=["off"], moments=[("c",)])


class QuietTest(TickTest):
    def test_the_silence_grows(self):
        self.check(("work", ("c",), *NO_ROW, 0), (), None, ("work", ("c",), *NO_ROW, 1))
        self.check(("work", ("c",), *NO_ROW, 1), (), None, ("work", ("c",), *NO_ROW, 2))

    def test_it_is_quiet(self):
        self.check(("work", ("b", "c"), *NO_ROW, 2), (), None, ("safe", ("a", "c"), *NO_ROW, 0), moments=[("a", "c")])
        self.check(("safe", ("b", "c"), *NO_ROW, 2), (), None, ("safe", ("a", "c"), *NO_ROW, 0), moments=[("a", "c")])
        self.check(("safe", ("a", "c"), *NO_ROW, 2), (), None, ("safe", ("a", "c"), *NO_ROW, 0), moments=[("a", "c")])

    def test_quiet_stops_the_row_ahead_of_its_step(self):
        for row in (("long", 0, 1), ("long", 2, 1), ("long", 1, 2), ("short", 0, 1)):
            self.check(("work", ("b",), *row, 2), (), None, ("safe", ("a",), *NO_ROW, 0), moments=[("a",)])

    def test_quiet_behind_alarms(self):
        self.check(("safe", ("a",), "long", 0, 1, 2), ("one", "rest"), None, ("safe", ("a", "c"), *NO_ROW, 0),
                   moments=[("a", "c"), ("c",), ("a", "c")])

    def test_an_order_in_the_very_tick(self):
        self.check(("work", ("c",), *NO_ROW, 2), (), ("stop",), ("work", ("c",), *NO_ROW, 0))
        self.check(("work", ("c",), *NO_ROW, 2), (), ("do", "never"), ("work", ("c",), *NO_ROW, 0), refused=["never"])
        self.check(("work", ("c",), *NO_ROW, 2), (), ("run", "lost"), ("work", ("c",), "lost", 0, 1, 0))

    def test_quiet_of_one_tick(self):
        self.book = made(WIDE, quiet=1)
        self.check(("work", ("b",), *NO_ROW, 0), (), None, ("safe", ("a",), *NO_ROW, 0), moments=[("a",)])
        self.check(("work", ("b",), *NO_ROW, 0), (), ("stop",), ("work", ("b",), *NO_ROW, 0))

    def test_no_quiet(self):
        self.book = made(WIDE, quiet=None)
        self.check(("work", ("b",), *NO_ROW, 0), (), None, ("work", ("b",), *NO_ROW, 0))
        self.check(("work", ("b",), "long", 1, 2, 0), (), None, ("work", ("b",), "long", 1, 1, 0))


class RowsTest(TickTest):
    def test_a_step_comes_nearer(self):
        self.check(("safe", (), "long", 1, 2, 0), (), None, ("safe", (), "long", 1, 1, 1))

    def test_a_step_is_done(self):
        self.check(("safe", ("d",), "long", 0, 1, 0), (), None, ("safe", ("c",), "long", 1, 2, 1), done=["on"],
                   moments=[("c",)])
        self.check(("safe", ("a",), "long", 1, 1, 0), (), None, ("work", ("b", "d"), "long", 2, 1, 1), done=["work"],
                   moments=[("b", "d")])

    def test_a_step_is_passed_over(self):
        self.check(("work", ("c",), "long", 0, 1, 0), (), None, ("work", ("c",), "long", 1, 2, 1))
        self.check(("safe", ("c",), "lost", 0, 1, 0), (), None, ("safe", ("c",), "lost", 1, 1, 1))

    def test_a_row_is_over(self):
        self.check(("work", ("c",), "long", 2, 1, 0), (), None, ("work", ("d",), *NO_ROW, 1), done=["off"],
                   moments=[("d",)])
        self.check(("safe", ("c",), "long", 2, 1, 0), (), None, ("safe", ("c",), *NO_ROW, 1))
        self.check(("safe", ("c",), "lost", 1, 1, 0), (), None, ("safe", ("c",), *NO_ROW, 1))

    def test_the_mode_behind_the_order_counts(self):
        self.check(("work", ("c",), "long", 2, 1, 0), (), ("do", "home"), ("safe", ("a", "c"), *NO_ROW, 0),
                   done=["home"], moments=[("a", "c")])
        self.check(("work", (), "long", 1, 1, 0), (), ("do", "home"), ("work", ("b", "d"), "long", 2, 1, 0),
                   done=["home", "work"], moments=[("a",), ("b", "d")])

    def test_a_whole_row(self):
        steps = run_of(self.book, [((), ("run", "long")), *[((), None)] * 2, ((), ("do", "same")), *[((), None)] * 2])
        self.assertEqual([step.standing for step in steps], [
            ("safe", ("a",), "long", 0, 1, 0), ("safe", ("a", "c"), "long", 1, 2, 1),
            ("safe", ("a", "c"), "long", 1, 1, 2), ("work", ("b", "d"), "long", 2, 1, 0),
            ("work", ("b", "d"), *NO_ROW, 1), ("work", ("b", "d"), *NO_ROW, 2),
        ])
        self.assertEqual([step.done for step in steps], [[], ["on"], [], ["same", "work"], ["off"], []])


class WrongTest(unittest.TestCase):
    def setUp(self):
        self.book = made(PLAIN)

    def test_a_standing_that_is_none(self):
        for standing in (("nap", (), None, 0, 0, 0), ("safe", ("heat", "cam"), None, 0, 0, 0),
                         ("safe", (), "plan", 0, 3, 0), ("safe", (), None, 0, 0, 4), ("safe", (), None, 1, 0, 0)):
            with self.assertRaises(InvalidStanding) as caught:
                tick(self.book, standing, (), None)
            self.assertIsInstance(caught.exception, FarError)

    def test_an_input_that_is_none(self):
        for alarms, order in ((("hot",), None), (("low", "cold"), None), ((), ("do", "hop")), ((), ("run", "go")),
                              ((), ()), ((), ("stop", "go"))):
            with self.subTest(alarms=alarms, order=order):
                with self.assertRaises(InvalidInput):
                    tick(self.book, ("safe", (), None, 0, 0, 0), alarms, order)
                with self.assertRaises(InvalidInput):
                    run_of(self.book, [((), None), (alarms, order), ((), None)])

    def test_the_standing_is_looked_at_first(self):
        with self.assertRaises(InvalidStanding):
            tick(self.book, ("nap", (), None, 0, 0, 0), ("hot",), ("do", "hop"))


class RunTest(unittest.TestCase):
    def test_the_examples(self):
        book = made(EXAMPLE)
        self.assertEqual(first_standing(book), ("safe", (), None, 0, 0, 0))
        self.assertEqual(tick(book, ("safe", ("heat",), None, 0, 0, 3), (), ("run", "plan")).standing,
                         ("safe", ("heat",), "plan", 0, 2, 0))
        steps = run_of(book, [((), ("run", "plan")), ((), None), ((), None)])
        self.assertEqual([(step.standing, step.done, step.moments) for step in steps][2],
                         (("work", ("cam",), "plan", 1, 1, 2), ["go"], [("cam",)]))

    def test_no_inputs(self):
        self.assertEqual(run_of(made(PLAIN), []), [])

    def test_inputs_stay_and_lists_are_new(self):
        inputs = [((), ("do", "warm")), (("low",), None)]
        steps = run_of(made(PLAIN), inputs)
        self.assertEqual(inputs, [((), ("do", "warm")), (("low",), None)])
        self.assertEqual([step.done for step in steps], [["warm"], []])
        for step in steps:
            step.done.append("x")
            step.moments.clear()
        self.assertEqual([step.done for step in run_of(made(PLAIN), inputs)], [["warm"], []])

    def test_ticks_of_all_standings_and_inputs(self):
        for seed in range(40):
            parts = parts_by_chance(seed)
            plain, book = Plain(parts), made(parts)
            for standing in plain.standings()[::7]:
                for alarms, order in plain.inputs():
                    step = tick(book, standing, alarms, order)
                    self.assertEqual((step.standing, step.done, step.refused, step.moments),
                                     plain.tick(standing, alarms, order), (seed, standing, alarms, order))

    def test_long_histories(self):
        for seed in range(60):
            parts = WIDE if seed % 3 == 0 else parts_by_chance(seed, holds=6, modes=5, commands=8, alarms=4, rows=3)
            plain, chance = Plain(parts), random.Random(seed)
            told = [chance.choice(plain.inputs()) if chance.random() < 0.5 else ((), None) for _ in range(60)]
            standing, expected = plain.first(), []
            for alarms, order in told:
                expected.append(plain.tick(standing, alarms, order))
                standing = expected[-1][0]
            steps = run_of(made(parts), told)
            self.assertEqual([(step.standing, step.done, step.refused, step.moments) for step in steps], expected)


class SmallestTest(unittest.TestCase):
    def test_a_book_in_which_nothing_happens(self):
        step = tick(made(SMALLEST), ("m", ("a",), None, 0, 0, 0), (), ("stop",))
        self.assertEqual((step.standing, step.done, step.refused, step.moments),
                         (("m", ("a",), None, 0, 0, 0), [], [], []))


if __name__ == "__main__":
    unittest.main()
