"""Points [20], [23] and [24]: standings and their order, the first standing, barred lots, and the order of inputs."""

import copy
import random
import unittest

from farword.books import is_input
from farword.steps import (Step, ascending, first_standing, inputs_of, is_barred, is_standing, orders_of)
from tests.plain import Plain, parts_by_chance
from tests.samples import COMMANDS, FULL, HOLDS, MODES, PLAIN, SMALLEST, made

REST = ("safe", (), None, 0, 0, 0)
IN_PLAN = ("work", ("cam",), "plan", 0, 2, 3)


class IsStandingTest(unittest.TestCase):
    def check(self, book, values, answer):
        for value in values:
            with self.subTest(value=value):
                self.assertIs(is_standing(book, value), answer)

    def test_standings(self):
        self.check(made(PLAIN), [
            REST, IN_PLAN, ("idle", ("cam", "heat", "radio"), None, 0, 0, 3), ("safe", ("cam", "radio"), None, 0, 0, 1),
            ("work", (), "plan", 0, 1, 0), ("work", (), "plan", 1, 1, 0), ("idle", ("heat",), "again", 0, 9, 2),
            ("idle", ("heat",), "again", 0, 1, 0),
        ], True)

    def test_strange_modes(self):
        self.check(made(PLAIN), [(mode, *REST[1:]) for mode in ("", "nap", "cam", "go", "plan", "Safe", "low")], False)

    def test_strange_holds(self):
        lots = [("heat", "cam"), ("cam", "cam"), ("tank",), ("cam", "tank"), ("",), ("safe",), ("cam", "heat", "heat"),
                ("Cam",), ("radio", "cam", "heat")]
        self.check(made(PLAIN), [("safe", lot, None, 0, 0, 0) for lot in lots], False)

    def test_strange_rows_places_and_ticks(self):
        strange = [("nap", 0, 1), ("", 0, 0), ("", 0, 1), ("go", 0, 1), ("plan", 0, 0), ("plan", 0, 3),
                   ("plan", 0, -1), ("plan", 1, 2), ("plan", 1, 0), ("plan", 2, 1), ("plan", -1, 1), ("plan", -2, 1),
                   ("again", 0, 10), ("again", 1, 1), ("again", 1, 9), ("again", -1, 9)]
        self.check(made(PLAIN), [("safe", (), *row, 0) for row in strange], False)

    def test_no_row_with_a_place_or_ticks(self):
        strange = [(None, 1, 0), (None, 0, 1), (None, 1, 1), (None, -1, 0), (None, 0, -1)]
        self.check(made(PLAIN), [("safe", (), *row, 0) for row in strange], False)

    def test_the_silence_is_below_quiet(self):
        for quiet in (1, 2, 4, 30):
            book = made(PLAIN, quiet=quiet)
            self.check(book, [(*REST[:5], silence) for silence in range(quiet)], True)
            self.check(book, [(*REST[:5], silence) for silence in (-1, quiet, quiet + 1, 31)], False)

    def test_the_silence_is_0_without_quiet(self):
        book = made(PLAIN, quiet=None)
        self.check(book, [REST], True)
        self.check(book, [(*REST[:5], silence) for silence in (-1, 1, 2, 30)], False)

    def test_all_standings_of_books(self):
        for seed in range(30):
            parts = parts_by_chance(seed)
            book, standings = made(parts), Plain(parts).standings()
            self.assertTrue(all(is_standing(book, standing) for standing in standings))
            self.assertEqual(len(set(standings)), len(standings))

    def test_standings_of_another_book(self):
        self.check(made(FULL), [REST, IN_PLAN], False)
        self.check(made(SMALLEST), [REST, IN_PLAN, ("m", ("b",), None, 0, 0, 0)], False)
        self.check(made(SMALLEST), [("m", (), None, 0, 0, 0), ("m", ("a",), None, 0, 0, 0)], True)


class AscendingTest(unittest.TestCase):
    def test_a_missing_row_counts_as_the_empty_string(self):
        ordered = [
            ("idle", (), None, 0, 0, 1), ("idle", (), None, 0, 0, 2), ("idle", (), "again", 0, 1, 0),
            ("idle", (), "again", 0, 9, 0), ("idle", (), "plan", 0, 1, 3), ("idle", (), "plan", 0, 2, 0),
            ("idle", (), "plan", 1, 1, 0), ("idle", ("cam",), None, 0, 0, 0),
            ("idle", ("cam", "heat"), "plan", 1, 1, 0),
            ("idle", ("heat",), None, 0, 0, 0), ("safe", (), None, 0, 0, 0), ("work", (), "again", 0, 1, 0),
        ]
        for seed in range(20):
            mixed = ordered + ordered[::3]
            random.Random(seed).shuffle(mixed)
            before = list(mixed)
            self.assertEqual(ascending(mixed), ordered)
            self.assertEqual(mixed, before)

    def test_few_standings(self):
        self.assertEqual(ascending([]), [])
        self.assertEqual(ascending([REST]), [REST])
        self.assertEqual(ascending([REST, REST, REST]), [REST])

    def test_the_list_is_new(self):
        standings = [REST, IN_PLAN]
        self.assertIsNot(ascending(standings), standings)
        ascending(standings).clear()
        self.assertEqual(standings, [REST, IN_PLAN])

    def test_standings_without_rows_are_ordered_as_tuples(self):
        standings = [standing for standing in Plain(PLAIN).standings() if standing[2] is None]
        self.assertEqual(ascending(standings[::-1]), sorted(standings))

    def test_standings_with_rows_are_ordered_as_tuples(self):
        standings = [standing for standing in Plain(PLAIN).standings() if standing[2] is not None]
        self.assertEqual(ascending(standings[::-1]), sorted(standings))


class FirstStandingTest(unittest.TestCase):
    def test_first_standings(self):
        self.assertEqual(first_standing(made(PLAIN)), ("safe", ("radio",), None, 0, 0, 0))
        self.assertEqual(first_standing(made(SMALLEST)), ("m", (), None, 0, 0, 0))
        self.assertEqual(first_standing(made(FULL)), (MODES[0], HOLDS[:3], None, 0, 0, 0))

    def test_the_first_mode_is_the_safe_one(self):
        modes = [("z", ("a",), ()), ("b", (), ("a",))]
        self.assertEqual(first_standing(made(SMALLEST, modes=modes))[:2], ("z", ("a",)))
        self.assertEqual(first_standing(made(SMALLEST, modes=modes[::-1]))[:2], ("b", ()))


class IsBarredTest(unittest.TestCase):
    def test_a_barred_lot_is_part_of_the_lot(self):
        book = made(PLAIN)
        for lot in (("cam", "heat"), ("heat", "radio"), ("cam", "heat", "radio")):
            self.assertIs(is_barred(book, lot), True)
        for lot in ((), ("cam",), ("heat",), ("radio",), ("cam", "radio")):
            self.assertIs(is_barred(book, lot), False)

    def test_no_barred_lots(self):
        book = made(PLAIN, barred=[])
        self.assertIs(is_barred(book, ("cam", "heat", "radio")), False)

    def test_a_barred_lot_of_three(self):
        book = made(PLAIN, barred=[("cam", "heat", "radio")])
        lots = (("cam", "heat"), ("heat", "radio"), ("cam", "heat", "radio"))
        self.assertEqual([is_barred(book, lot) for lot in lots], [False, False, True])


class StepTest(unittest.TestCase):
    def test_fields_and_copies(self):
        done, refused, moments = ["go"], ["off", "warm"], [("cam",), ()]
        step = Step(IN_PLAN, done, refused, moments)
        for told in (done, refused, moments):
            told.clear()
        self.assertEqual((step.standing, step.done, step.refused, step.moments),
                         (IN_PLAN, ["go"], ["off", "warm"], [("cam",), ()]))


class OrderOfInputsTest(unittest.TestCase):
    def test_orders(self):
        self.assertEqual(orders_of(made(PLAIN)), [None, ("do", "go"), ("do", "off"), ("do", "warm"), ("run", "again"),
                                                  ("run", "plan"), ("stop",)])
        self.assertEqual(orders_of(made(SMALLEST)), [None, ("stop",)])
        full = [None, *[("do", name) for name in COMMANDS], *[("run", row[0]) for row in FULL["rows"]], ("stop",)]
        self.assertEqual(orders_of(made(FULL)), full)

    def test_inputs_by_the_number_of_alarms_and_then_by_name(self):
        orders = orders_of(made(PLAIN))
        lots = [(), ("cold",), ("low",), ("cold", "low")]
        self.assertEqual(inputs_of(made(PLAIN)), [(lot, order) for lot in lots for order in orders])
        self.assertEqual(inputs_of(made(SMALLEST)), [((), None), ((), ("stop",))])

    def test_lots_of_four_alarms(self):
        alarms = [(name, (), (), None) for name in ("d", "b", "a", "c")]
        lots = [alarms for alarms, order in inputs_of(made(SMALLEST, alarms=alarms)) if order is None]
        self.assertEqual(["".join(lot) for lot in lots], ["", "a", "b", "c", "d", "ab", "ac", "ad", "bc", "bd", "cd",
                                                          "abc", "abd", "acd", "bcd", "abcd"])

    def test_names_of_unlike_lengths(self):
        alarms = [(name, (), (), None) for name in ("b", "a0", "a", "ab")]
        lots = [lot for lot, order in inputs_of(made(SMALLEST, alarms=alarms)) if order is None]
        self.assertEqual(lots[1:7], [("a",), ("a0",), ("ab",), ("b",), ("a", "a0"), ("a", "ab")])

    def test_all_inputs_of_books(self):
        for seed in range(30):
            parts = parts_by_chance(seed, alarms=4, rows=3, commands=8)
            book = made(parts)
            self.assertEqual(inputs_of(book), Plain(parts).inputs())
            self.assertTrue(all(is_input(book, told) for told in inputs_of(book)))
        self.assertEqual(len(inputs_of(made(FULL))), 16 * (1 + 8 + 3 + 1))

    def test_lists_are_new(self):
        book = made(PLAIN)
        for ask in (orders_of, inputs_of):
            before = copy.deepcopy(ask(book))
            ask(book).clear()
            self.assertEqual(ask(book), before)


if __name__ == "__main__":
    unittest.main()
