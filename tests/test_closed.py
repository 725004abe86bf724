"""Points [24] and [25]: reached standings and their first histories, barred histories and tables."""

import random
import unittest

from farword.closed import check_table, history_to, is_barred_history, reached, verdict
from farword.errors import FarError, InvalidInput, TooLarge
from tests.plain import Plain, parts_by_chance
from tests.samples import ONE_TOO_MANY, PLAIN, SMALLEST, WIDEST, made

# A small book with two alarms and two ways into each mode, whose order of histories matters.
SMALL = {
    "holds": ["a", "b"],
    "modes": [("safe", (), ("a",)), ("work", ("a",), ())],
    "barred": [("a", "b")],
    "commands": [("go", ("safe",), (), (), "work"), ("turn", ("safe",), ("b",), (), None)],
    "alarms": [("y", (), (), "safe"), ("x", (), ("b",), "work")],
    "rows": [("r", ((1, "turn"), (1, "go")))],
    "quiet": 2,
}
BOOKS = [SMALL, PLAIN, SMALLEST, *[parts_by_chance(seed, holds=2, modes=2, alarms=1) for seed in range(12)]]


def barred_histories(plain, most):
    """All barred histories of at most so many ticks, in order, told straight by point [25]."""
    for history in plain.histories(most):
        standing, moments = plain.first(), [plain.first()[1]]
        for told in history:
            standing, _, _, moments = plain.tick(standing, *told)
        if any(plain.is_barred_lot(lot) for lot in moments):
            yield history


class ReachedTest(unittest.TestCase):
    def test_standings_in_the_order_of_their_first_histories(self):
        for parts in BOOKS:
            found = Plain(parts).first_histories()
            self.assertEqual(reached(made(parts)), list(found))

    def test_first_histories_among_all_histories(self):
        for parts in [SMALL, *BOOKS[3:6]]:
            plain, first = Plain(parts), {}
            for history in plain.histories(2):
                first.setdefault(plain.behind(plain.first(), history), history)
            book = made(parts)
            self.assertEqual(reached(book)[:len(first)], list(first))
            for standing, history in first.items():
                self.assertEqual(history_to(book, standing), history)

    def test_books_with_two_thousand_standings(self):
        book = made(WIDEST)
        self.assertEqual(len(reached(book)), 2000)
        self.assertEqual(verdict(book), ("clean", reached(book)))
        self.assertEqual(history_to(book, reached(book)[0]), [])

    def test_books_with_more(self):
        for parts in (ONE_TOO_MANY, {**WIDEST, "quiet": 26}):
            book = made(parts)
            with self.assertRaises(TooLarge) as caught:
                reached(book)
            self.assertIsInstance(caught.exception, FarError)
            with self.assertRaises(TooLarge):
                history_to(book, Plain(parts).first())
            with self.assertRaises(TooLarge):
                verdict(book)

    def test_the_numbers_of_the_large_books(self):
        shorter = {**ONE_TOO_MANY, "rows": [*ONE_TOO_MANY["rows"][:2], ("t", ((9, "never"), (4, "never")))]}
        self.assertEqual(len(reached(made(shorter))), 23 * 86)
        self.assertEqual(len(Plain(ONE_TOO_MANY).first_histories(2100)), 2001)

    def test_a_large_book_that_is_barred_at_once(self):
        for lots in ([("a", "b")], [("a", "b", "c", "d")]):
            with self.assertRaises(TooLarge):
                verdict(made(ONE_TOO_MANY, barred=lots))

    def test_lists_are_new(self):
        book = made(SMALL)
        reached(book).clear()
        self.assertEqual(len(reached(book)), len(Plain(SMALL).first_histories()))


class HistoryTest(unittest.TestCase):
    def test_first_histories(self):
        for parts in BOOKS:
            found, book = Plain(parts).first_histories(), made(parts)
            for standing in list(found)[::1 + len(found) // 20]:
                self.assertEqual(history_to(book, standing), found[standing])

    def test_the_first_standing(self):
        for parts in (SMALL, PLAIN, SMALLEST):
            self.assertEqual(history_to(made(parts), Plain(parts).first()), [])

    def test_standings_that_are_not_reached(self):
        plain, book = Plain(SMALL), made(SMALL)
        found = plain.first_histories()
        others = [standing for standing in plain.standings() if standing not in found]
        self.assertGreater(len(others), 0)
        for standing in others:
            self.assertIsNone(history_to(book, standing))
        self.assertIsNone(history_to(made(SMALLEST), ("m", ("a",), None, 0, 0, 0)))


class VerdictTest(unittest.TestCase):
    def test_the_example(self):
        book = made(SMALLEST, holds=["a", "b"], barred=[("a", "b")], commands=[("x", ("m",), ("a",), (), None)],
                    alarms=[("y", ("b",), (), None)])
        self.assertEqual(verdict(book), ("barred", [(("y",), ("do", "x"))]))

    def test_clean_books(self):
        for parts in (SMALLEST, {**SMALL, "barred": []}, WIDEST):
            book = made(parts)
            self.assertEqual(verdict(book), ("clean", reached(book)))

    def test_the_first_of_all_barred_histories(self):
        told = {"clean": 0, "barred": 0}
        for seed in range(80):
            parts = parts_by_chance(seed, holds=3, modes=2, barred=2, alarms=2, rows=1)
            word, found = verdict(made(parts))
            told[word] += 1
            if word == "clean":
                self.assertEqual(found, list(Plain(parts).first_histories()))
                self.assertIsNone(next(barred_histories(Plain(parts), 1), None))
            elif len(found) <= 2:
                self.assertEqual(next(barred_histories(Plain(parts), 2)), found)
        self.assertGreater(min(told.values()), 10)

    def test_a_barred_first_standing(self):
        book = made(SMALL, modes=[("safe", ("a", "b"), ()), ("work", (), ())])
        self.assertEqual(verdict(book), ("barred", []))
        self.assertIs(is_barred_history(book, []), True)

    def test_a_moment_in_the_midst_of_a_tick(self):
        # The first alarm bars, and the second one takes it back.
        alarms = [("z", ("a", "b"), (), None), ("y", (), ("a", "b"), None)]
        book = made(SMALLEST, holds=["a", "b"], barred=[("a", "b")], alarms=alarms)
        self.assertEqual(verdict(book), ("barred", [(("z",), None)]))
        book = made(SMALLEST, holds=["a", "b"], barred=[("a", "b")], alarms=[("z", ("a", "b"), (), "m")],
                    modes=[("m", (), ("a",))])
        self.assertEqual(verdict(book), ("clean", reached(book)))

    def test_a_moment_of_the_entering_at_quiet(self):
        book = made(SMALLEST, holds=["a", "b"], barred=[("a", "b")], modes=[("m", ("a",), ()), ("n", (), ("a",))],
                    commands=[("x", ("m",), (), (), "n"), ("y", ("n",), ("b",), (), None)], quiet=2)
        history = [((), ("do", "x")), ((), ("do", "y")), ((), None), ((), None)]
        self.assertEqual(verdict(book), ("barred", history))

    def test_a_later_tick_from_an_earlier_standing_comes_behind(self):
        # Both ways need two ticks; the one that begins with the smaller input is told.
        book = made(SMALLEST, holds=["a", "b"], barred=[("a", "b")],
                    commands=[("x", ("m",), ("a",), (), None), ("y", ("m",), ("b",), (), None)])
        self.assertEqual(verdict(book), ("barred", [((), ("do", "x")), ((), ("do", "y"))]))

    def test_results_are_new(self):
        book = made(SMALL)
        word, history = verdict(book)
        self.assertEqual(word, "barred")
        before = list(history)
        history.clear()
        self.assertEqual(verdict(book), ("barred", before))


class TableTest(unittest.TestCase):
    def setUp(self):
        self.book = made(SMALL, barred=[])
        self.table = reached(self.book)

    def test_tables(self):
        self.assertIs(check_table(self.book, self.table), True)
        self.assertIs(check_table(self.book, self.table[::-1]), True)
        self.assertIs(check_table(self.book, self.table * 2), True)
        mixed = [*self.table, self.table[3]]
        random.Random(1).shuffle(mixed)
        before = list(mixed)
        self.assertIs(check_table(self.book, mixed), True)
        self.assertEqual(mixed, before)

    def test_a_table_of_all_standings(self):
        for parts in ({**SMALL, "barred": []}, {**PLAIN, "barred": []}):
            self.assertIs(check_table(made(parts), Plain(parts).standings()), True)

    def test_one_standing_left_out(self):
        for at in range(len(self.table)):
            self.assertIs(check_table(self.book, self.table[:at] + self.table[at + 1:]), False)

    def test_one_standing_put_in(self):
        plain = Plain({**SMALL, "barred": []})
        answers = []
        for standing in plain.standings():
            if standing not in self.table:
                behind = [plain.tick(standing, *told)[0] for told in plain.inputs()]
                answers.append(all(other in [*self.table, standing] for other in behind))
                self.assertIs(check_table(self.book, [*self.table, standing]), answers[-1])
        self.assertEqual(sorted(set(answers)), [False, True])

    def test_no_standings(self):
        self.assertIs(check_table(self.book, []), False)
        self.assertIs(check_table(made(SMALLEST), []), False)

    def test_tuples_that_are_no_standings(self):
        for value in (("nap", (), None, 0, 0, 0), ("safe", ("b", "a"), None, 0, 0, 0), ("safe", (), None, 0, 0, 2),
                      ("safe", (), "r", 2, 1, 0), ("safe", (), None, 1, 0, 0)):
            self.assertIs(check_table(self.book, [*self.table, value]), False)
            self.assertIs(check_table(self.book, [value, *self.table]), False)

    def test_tuples_that_are_no_standings_and_lead_nowhere(self):
        book, good = made(SMALLEST), ("m", (), None, 0, 0, 0)
        for value in (("nap", (), None, 0, 0, 0), ("m", ("b",), None, 0, 0, 0)):
            self.assertIs(check_table(book, [good, value]), False)
            self.assertIs(check_table(book, [value, good]), False)
        self.assertIs(check_table(book, [good]), True)

    def test_tables_that_are_not_clean(self):
        for seed in range(40):
            parts = parts_by_chance(seed, holds=3, modes=2, barred=2)
            book = made(parts)
            self.assertIs(check_table(book, reached(book)), verdict(book)[0] == "clean")

    def test_a_standing_that_is_not_reached_has_to_be_clean_too(self):
        book = made(SMALLEST, holds=["a", "b"], barred=[("a", "b")], quiet=1)
        clean = [("m", (), None, 0, 0, 0), ("m", ("a",), None, 0, 0, 0)]
        self.assertIs(check_table(book, clean), True)
        # What is on there is a moment only when the safe mode is entered.
        self.assertIs(check_table(book, [*clean, ("m", ("a", "b"), None, 0, 0, 0)]), False)
        book = book.with_quiet(None)
        self.assertIs(check_table(book, [*clean, ("m", ("a", "b"), None, 0, 0, 0)]), True)

    def test_a_barred_first_standing(self):
        book = made(SMALLEST, holds=["a", "b"], modes=[("m", ("a", "b"), ())], barred=[("a", "b")])
        self.assertEqual(reached(book), [("m", ("a", "b"), None, 0, 0, 0)])
        self.assertIs(check_table(book, reached(book)), False)
        self.assertIs(check_table(book.without_barred(("a", "b")), reached(book)), True)

    def test_a_table_of_two_thousand(self):
        book = made(WIDEST)
        table = reached(book)
        self.assertIs(check_table(book, table), True)
        self.assertIs(check_table(book, table[:-1]), False)

    def test_a_table_of_a_larger_book(self):
        parts = {**SMALLEST, "holds": ["a", "b", "c"], "quiet": 30, "rows": [("r", ((9, "c"),) * 4)],
                 "commands": [("c", (), (), (), None)]}
        table = Plain(parts).standings()
        self.assertGreater(len(table), 2000)
        self.assertIs(check_table(made(parts), table), True)
        self.assertIs(check_table(made(parts), table[1:]), False)


class BarredHistoryTest(unittest.TestCase):
    def test_histories_of_few_ticks(self):
        for parts in [SMALL, *[parts_by_chance(seed, barred=2, modes=2) for seed in range(20)]]:
            plain, book = Plain(parts), made(parts)
            barred = list(barred_histories(plain, 1))
            for history in plain.histories(1):
                self.assertIs(is_barred_history(book, history), history in barred)

    def test_the_history_of_no_ticks(self):
        self.assertIs(is_barred_history(made(SMALL), []), False)
        self.assertIs(is_barred_history(made(SMALLEST), []), False)

    def test_the_last_tick_counts(self):
        barred = verdict(made(SMALL))[1]
        self.assertIs(is_barred_history(made(SMALL), barred), True)
        self.assertIs(is_barred_history(made(SMALL), [*barred, (("x",), None)]), False)
        self.assertIs(is_barred_history(made(SMALL), barred[:-1]), False)

    def test_wrong_inputs(self):
        for bad in (((), ("do", "hop")), (("hot",), None), (("y", "x"), None)):
            for history in ([bad], [bad, ((), None)], [((), None), bad]):
                before = list(history)
                with self.assertRaises(InvalidInput):
                    is_barred_history(made(SMALL), history)
                self.assertEqual(history, before)


if __name__ == "__main__":
    unittest.main()
