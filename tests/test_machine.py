"""The machine by which many ticks are worked out at once, held against the plain book; and how much it works."""

import itertools
import sys
import unittest

from farword.alike import pairs_of, parting_history
from farword.closed import history_to, reached, verdict
from farword.errors import TooLarge
from farword.machine import Coming, Machine, Walk
from farword.rests import rest_bound, ranks_of
from farword.steps import alarm_lots, lots_of
from tests.plain import Plain, parts_by_chance
from tests.samples import (FULL, MANY_COMMANDS, MANY_LOTS, MANY_STAGES, ONE_TOO_MANY, PLAIN, SMALLEST, WIDEST, made)

BOOKS = [SMALLEST, PLAIN, *[parts_by_chance(seed, holds=3, modes=3, barred=3, commands=3, rows=2, quiet=3)
                            for seed in range(25)]]


def machine_of(parts):
    return Machine(made(parts), alarm_lots(made(parts)))


def some(things, many):
    """At most so many of the things, from all over the list."""
    return things[::1 + len(things) // many]


class MachineTest(unittest.TestCase):
    def test_numbers_of_standings(self):
        for parts in BOOKS:
            machine, standings = machine_of(parts), Plain(parts).standings()
            numbers = [machine.number_of(standing) for standing in standings]
            self.assertEqual(len(set(numbers)), len(standings))
            self.assertEqual([machine.standing_of(number) for number in numbers], standings)
            self.assertEqual(machine.standing_of(machine.first), Plain(parts).first())

    def test_numbers_of_the_largest_book(self):
        machine = machine_of(FULL)
        for standing in some(Plain(FULL).standings(), 3000):
            self.assertEqual(machine.standing_of(machine.number_of(standing)), standing)

    def check_outcome(self, plain, machine, standing, told, outcome):
        """What the machine tells of a tick; what it shows is told as a number."""
        number, shown, barred = outcome
        behind, done, refused, moments = plain.tick(standing, *told)
        self.assertEqual(machine.standing_of(number), behind)
        self.assertIs(barred, any(plain.is_barred_lot(lot) for lot in moments))
        return shown, (tuple(done), tuple(refused))

    def test_ticks_without_alarms(self):
        for parts in BOOKS:
            machine, plain = machine_of(parts), Plain(parts)
            by_order = {}
            for standing in some(plain.standings(), 150):
                number = machine.number_of(standing)
                outcomes = [machine.waited(number), *machine.ordered(machine.core_of(number))]
                self.assertEqual(len(outcomes), len(machine.orders))
                for at, (order, outcome) in enumerate(zip(machine.orders, outcomes)):
                    seen = self.check_outcome(plain, machine, standing, ((), order), outcome)
                    by_order.setdefault(order, set()).add(seen)
                    self.assertEqual(machine.behind(number, at), outcome[0])
            for seen in by_order.values():
                # The number of what a tick shows and what it shows tell one another.
                self.assertEqual(len({shown for shown, _ in seen}), len(seen))
                self.assertEqual(len({words for _, words in seen}), len(seen))

    def test_half_ways(self):
        for parts in BOOKS:
            book = made(parts)
            machine, plain = machine_of(parts), Plain(parts)
            for standing in some(plain.standings(), 150):
                half_ways = machine.half_ways(machine.number_of(standing))
                self.assertEqual([alarms for alarms, _, _ in half_ways], alarm_lots(book)[1:])
                for alarms, half_way, barred in half_ways:
                    # The order stops nothing here, and leaves the silence alone but for setting it to 0.
                    behind, _, _, moments = plain.tick(standing, alarms, ("stop",))
                    self.assertEqual(machine.standing_of(half_way), (*behind[:2], None, 0, 0, standing[5]))
                    self.assertIs(barred, any(plain.is_barred_lot(lot) for lot in moments))

    def test_parts_of_numbers(self):
        for parts in BOOKS:
            machine = machine_of(parts)
            cores, lots = {}, {}
            for standing in some(Plain(parts).standings(), 200):
                number = machine.number_of(standing)
                cores.setdefault(machine.core_of(number), set()).add(standing[:5])
                lots.setdefault(machine.lot_of(number), set()).add(standing[1])
                stopped = machine.standing_of(machine.stopped(number))
                self.assertEqual(stopped, (*standing[:2], None, 0, 0, standing[5]))
            for parts_told in [*cores.values(), *lots.values()]:
                self.assertEqual(len(parts_told), 1)

    def test_some_lots_of_alarms(self):
        machine = Machine(made(PLAIN), lots_of(("cold",)))
        self.assertEqual([alarms for alarms, _, _ in machine.half_ways(machine.first)], [("cold",)])
        self.assertEqual(Machine(made(PLAIN), [()]).half_ways(machine.first), [])


class WalkTest(unittest.TestCase):
    def test_each_tick_is_told_once(self):
        for parts in BOOKS:
            machine, plain = machine_of(parts), Plain(parts)
            walk, reached_so_far, barred_so_far = Walk(machine), set(), False
            for standing in plain.first_histories():
                ticks = walk.ticks_from(machine.number_of(standing))
                inputs = [told for told, _ in ticks]
                self.assertEqual(inputs, sorted(inputs, key=plain.inputs().index))
                for told, (behind, _, _) in ticks:
                    reached_so_far.add(machine.standing_of(behind))
                    self.assertEqual(machine.standing_of(behind), plain.tick(standing, *told)[0])
                # What is left out leads nowhere new, and has no barred moment unless one was told ahead.
                for told in plain.inputs():
                    self.assertIn(plain.tick(standing, *told)[0], reached_so_far)
                first = next((told for told, outcome in ticks if outcome[2]), None)
                barred = [told for told in plain.inputs() if self.is_barred(plain, standing, told)]
                if not barred_so_far:
                    self.assertEqual(first, barred[0] if barred else None)
                barred_so_far = barred_so_far or bool(barred)

    def is_barred(self, plain, standing, told):
        return any(plain.is_barred_lot(lot) for lot in plain.tick(standing, *told)[3])


class ComingTest(unittest.TestCase):
    def test_all_that_comes(self):
        for parts in BOOKS:
            plain, book = Plain(parts), made(parts)
            alarms = tuple(sorted(part[0] for part in parts["alarms"]))[:1]
            coming = Coming(book, lots_of(alarms))
            lots = [(), alarms] if alarms else [()]
            orders = [order for lot, order in plain.inputs() if lot == ()]
            for standing, order in itertools.product(some(plain.standings(), 30), orders):
                came = coming.behind(standing, order)
                expected = [plain.tick(standing, lot, order)[0] for lot in lots]
                self.assertEqual(set(came), set(expected))
                for behind, lot in came.items():
                    self.assertEqual(lot, lots[expected.index(behind)])


def calls_in(deed):
    """How many functions of Python's own kind the deed calls: a measure of its work that no clock tells."""
    calls = [0]

    def count(frame, event, told):
        calls[0] += event == "call"
    sys.setprofile(count)
    try:
        deed()
    except TooLarge:
        pass
    finally:
        sys.setprofile(None)
    return calls[0]


class ManyStandingsTest(unittest.TestCase):
    def test_answers(self):
        book = made(MANY_LOTS)
        table = reached(book)
        self.assertEqual((len(table), len(set(table))), (1920, 1920))
        self.assertEqual(rest_bound(book), (30, ("m", ("a",), None, 0, 0, 0)))
        self.assertEqual(verdict(book), ("clean", table))
        self.assertEqual(table, list(Plain(MANY_LOTS).first_histories()))
        book = made(MANY_COMMANDS)
        self.assertEqual(reached(book), list(Plain(MANY_COMMANDS).first_histories()))
        self.assertEqual(len(reached(book)), 2000)
        self.assertEqual(verdict(book), ("barred", [((), ("do", "xa")), ((), ("do", "xb"))]))
        self.assertEqual(rest_bound(book), (25, ("m1", (), None, 0, 0, 0)))

    def test_histories(self):
        for parts in (MANY_LOTS, MANY_COMMANDS):
            found, book = Plain(parts).first_histories(), made(parts)
            for standing in list(found)[::317]:
                self.assertEqual(history_to(book, standing), found[standing])

    def test_too_large(self):
        book = made(MANY_STAGES)
        for ask in (reached, verdict, rest_bound, ranks_of, lambda told: pairs_of(told, told),
                    lambda told: parting_history(told, told),
                    lambda told: history_to(told, Plain(MANY_STAGES).first())):
            with self.assertRaises(TooLarge):
                ask(book)
        for ask in (reached, verdict, rest_bound, ranks_of):
            with self.assertRaises(TooLarge):
                ask(made(MANY_COMMANDS, quiet=26))
            ask(made(MANY_COMMANDS, quiet=24))

    def test_rest_times(self):
        for parts in (MANY_LOTS, MANY_COMMANDS):
            plain, ranks = Plain(parts), ranks_of(made(parts))
            self.assertEqual(list(ranks), list(plain.first_histories()))
            for standing, rank in ranks.items():
                # With no rows all but the safe mode with what it turns off off wait for the quiet.
                behind = plain.behind(standing, [((), None)] * (parts["quiet"] - standing[5]))
                self.assertEqual(rank, 0 if behind[:2] == standing[:2] else parts["quiet"] - standing[5])

    def test_the_work_for_each_standing(self):
        many, stages, commands = made(MANY_LOTS), made(MANY_STAGES), made(MANY_COMMANDS)
        # Each asks for about two thousand standings, or pairs; an order is worked out once for all silences.
        for deed, most in ((lambda: reached(many), 20), (lambda: rest_bound(many), 30), (lambda: reached(commands), 20),
                           (lambda: verdict(made(MANY_COMMANDS, quiet=26)), 20), (lambda: rest_bound(stages), 15),
                           (lambda: pairs_of(stages, stages), 50), (lambda: reached(made(WIDEST)), 45),
                           (lambda: verdict(made(ONE_TOO_MANY)), 35)):
            self.assertLess(calls_in(deed), most * 2000)


if __name__ == "__main__":
    unittest.main()
