"""Points [26] and [27]: standings that rest, rest times, the rest bound and ranks."""

import unittest

from farword.errors import TooLarge
from farword.rests import check_ranks, ranks_of, rest_bound, rest_time, rests
from tests.plain import Plain, parts_by_chance
from tests.samples import ONE_TOO_MANY, PLAIN, SMALLEST, WIDEST, made

# The safe mode turns c on and leaves a; the row ends in the other mode.
CRAFT = {
    "holds": ["a", "b", "c"],
    "modes": [("safe", ("c",), ("b",)), ("work", ("b",), ())],
    "barred": [("a", "b")],
    "commands": [("go", ("safe",), ("a",), (), "work"), ("off", ("work",), (), ("a",), None)],
    "alarms": [("x", ("b",), (), None)],
    "rows": [("r", ((2, "go"), (9, "off")))],
    "quiet": 5,
}
NO_ROW = (None, 0, 0)


def chain(plain, standing, most=200):
    """The standings behind so many ticks with nothing heard, from this one on."""
    standings = [standing]
    for _ in range(most):
        standings.append(plain.tick(standings[-1], (), None)[0])
    return standings


def resting(plain, standing):
    """Whether no row runs and nothing changes in many ticks, straight by the words."""
    return standing[2] is None and len({other[:2] for other in chain(plain, standing)}) == 1


class RestsTest(unittest.TestCase):
    def test_with_quiet(self):
        book = made(CRAFT)
        for standing, answer in (
                (("safe", ("c",), *NO_ROW, 0), True), (("safe", ("a", "c"), *NO_ROW, 4), True),
                (("safe", (), *NO_ROW, 0), False), (("safe", ("b", "c"), *NO_ROW, 0), False),
                (("work", ("c",), *NO_ROW, 0), False), (("work", ("b",), *NO_ROW, 4), False),
                (("safe", ("c",), "r", 0, 2, 0), False), (("safe", ("c",), "r", 1, 1, 0), False)):
            with self.subTest(standing=standing):
                self.assertIs(rests(book, standing), answer)

    def test_without_quiet(self):
        book = made(CRAFT, quiet=None)
        for standing, answer in ((("safe", (), *NO_ROW, 0), True), (("safe", ("b",), *NO_ROW, 0), True),
                                 (("work", (), *NO_ROW, 0), True), (("work", ("a", "b", "c"), *NO_ROW, 0), True),
                                 (("safe", ("c",), "r", 0, 2, 0), False), (("work", (), "r", 1, 9, 0), False)):
            with self.subTest(standing=standing):
                self.assertIs(rests(book, standing), answer)

    def test_entering_the_safe_mode_anew(self):
        modes = [("safe", ("a",), ("b",)), ("work", (), ())]
        book = made(CRAFT, modes=modes)
        self.assertIs(rests(book, ("safe", ("a", "c"), *NO_ROW, 0)), True)
        for lot in (("c",), ("a", "b"), ("b",), ()):
            self.assertIs(rests(book, ("safe", lot, *NO_ROW, 0)), False)

    def test_all_standings_of_books(self):
        for seed in range(40):
            parts = parts_by_chance(seed, holds=3, modes=3, rows=2)
            plain, book = Plain(parts), made(parts)
            for standing in plain.standings()[::5]:
                self.assertIs(rests(book, standing), resting(plain, standing))


class RestTimeTest(unittest.TestCase):
    def test_with_quiet(self):
        book = made(CRAFT)
        for standing, time in ((("safe", ("c",), *NO_ROW, 3), 0), (("work", ("b",), *NO_ROW, 0), 5),
                               (("work", ("b",), *NO_ROW, 4), 1), (("safe", (), *NO_ROW, 1), 4),
                               (("safe", ("c",), "r", 1, 2, 0), 2), (("safe", ("c",), "r", 1, 9, 0), 5),
                               (("safe", ("c",), "r", 0, 2, 0), 5), (("safe", ("c",), "r", 0, 1, 4), 1)):
            with self.subTest(standing=standing):
                self.assertEqual(rest_time(book, standing), time)

    def test_without_quiet(self):
        book = made(CRAFT, quiet=None)
        for standing, time in ((("safe", (), *NO_ROW, 0), 0), (("work", ("b",), *NO_ROW, 0), 0),
                               (("safe", ("c",), "r", 1, 2, 0), 2), (("safe", ("c",), "r", 0, 2, 0), 11),
                               (("work", ("c",), "r", 0, 1, 0), 10)):
            with self.subTest(standing=standing):
                self.assertEqual(rest_time(book, standing), time)

    def test_all_standings_of_books(self):
        for seed in range(40):
            parts = parts_by_chance(seed, holds=3, modes=3, rows=2)
            plain, book = Plain(parts), made(parts)
            for standing in plain.standings()[::11]:
                states = [resting(plain, other) for other in chain(plain, standing, 40)]
                self.assertEqual(rest_time(book, standing), states.index(True))


class RestBoundTest(unittest.TestCase):
    def test_the_first_standing_that_has_it(self):
        told = set()
        for parts in [CRAFT, PLAIN, SMALLEST, *[parts_by_chance(seed) for seed in range(60)]]:
            plain, book = Plain(parts), made(parts)
            times = {standing: rest_time(book, standing) for standing in plain.first_histories()}
            bound, standing = rest_bound(book)
            self.assertEqual(bound, max(times.values()))
            self.assertEqual(standing, next(other for other in times if times[other] == bound))
            self.assertEqual(ranks_of(book), times)
            told.add(bound)
        self.assertGreater(len(told), 4)

    def test_a_book_that_always_rests(self):
        self.assertEqual(rest_bound(made(SMALLEST)), (0, ("m", (), None, 0, 0, 0)))
        self.assertEqual(ranks_of(made(SMALLEST)), {("m", (), None, 0, 0, 0): 0})

    def test_large_books(self):
        self.assertEqual(rest_bound(made(WIDEST)), (25, ("m1", (), None, 0, 0, 0)))
        self.assertEqual(len(ranks_of(made(WIDEST))), 2000)
        for ask in (rest_bound, ranks_of):
            with self.assertRaises(TooLarge):
                ask(made(ONE_TOO_MANY))

    def test_dicts_are_new(self):
        book = made(CRAFT)
        before = dict(ranks_of(book))
        ranks_of(book).clear()
        self.assertEqual(ranks_of(book), before)


class CheckRanksTest(unittest.TestCase):
    def setUp(self):
        self.book = made(CRAFT)
        self.ranks = ranks_of(self.book)
        self.bound = rest_bound(self.book)[0]
        self.assertEqual(self.bound, 5)

    def check(self, ranks, bound, answer):
        before = dict(ranks)
        self.assertIs(check_ranks(self.book, ranks, bound), answer)
        self.assertEqual(ranks, before)

    def test_rest_times_show_the_rest_bound(self):
        self.check(self.ranks, self.bound, True)
        self.check(self.ranks, self.bound + 1, True)
        self.check(dict(list(self.ranks.items())[::-1]), self.bound, True)
        for seed in range(30):
            book = made(parts_by_chance(seed))
            bound = rest_bound(book)[0]
            self.assertIs(check_ranks(book, ranks_of(book), bound), True)
            self.assertIs(check_ranks(book, ranks_of(book), bound - 1), False)

    def test_other_numbers(self):
        self.check({standing: rank + 2 for standing, rank in self.ranks.items()}, 7, True)
        self.check({standing: 2 * rank for standing, rank in self.ranks.items()}, 10, True)
        self.check({standing: 3 if rank == 0 else rank + 4 for standing, rank in self.ranks.items()}, 9, True)

    def test_a_number_too_great(self):
        for standing, rank in self.ranks.items():
            self.check({**self.ranks, standing: self.bound + 1}, self.bound, False)
            self.assertEqual(rank > 0, not rests(self.book, standing))

    def test_a_number_too_small(self):
        for standing, rank in self.ranks.items():
            if rank > 0:
                behind = Plain(CRAFT).tick(standing, (), None)[0]
                self.assertEqual(self.ranks[behind], rank - 1)
                self.check({**self.ranks, standing: rank - 1}, self.bound, False)

    def test_a_number_below_0(self):
        for standing, rank in self.ranks.items():
            self.check({**self.ranks, standing: -1}, self.bound, False)
        self.check({standing: rank - 1 for standing, rank in self.ranks.items()}, self.bound, False)

    def test_a_standing_left_out(self):
        for standing in self.ranks:
            self.check({other: rank for other, rank in self.ranks.items() if other != standing}, self.bound, False)

    def test_a_standing_put_in(self):
        book = made(CRAFT, commands=[], rows=[])
        ranks = ranks_of(book)
        more = ("safe", ("a", "c"), None, 0, 0, 0)
        self.assertNotIn(more, ranks)
        self.assertIs(check_ranks(book, ranks, 5), True)
        self.assertIs(check_ranks(book, {**ranks, more: 0}, 5), False)
        every = {standing: rest_time(book, standing) for standing in Plain({**CRAFT, "commands": [], "rows": []})
                 .standings()}
        self.assertIs(check_ranks(book, every, 5), True)

    def test_a_key_that_is_no_standing(self):
        for value in (("nap", (), None, 0, 0, 0), ("safe", (), None, 0, 0, 5), ("safe", ("c", "a"), None, 0, 0, 0)):
            self.check({**self.ranks, value: 0}, self.bound, False)
            self.check({value: 0, **self.ranks}, self.bound, False)

        first = ("m", (), None, 0, 0, 0)
        for value in (("nap", (), None, 0, 0, 0), ("m", ("b",), None, 0, 0, 0)):
            self.assertIs(check_ranks(made(SMALLEST), {first: 0, value: 0}, 0), False)

    def test_no_keys_and_other_bounds(self):
        for bound in (0, 5, -1):
            self.check({}, bound, False)
        self.check(self.ranks, 0, False)
        self.check(self.ranks, -1, False)
        self.assertIs(check_ranks(made(SMALLEST), {("m", (), None, 0, 0, 0): 0}, 0), True)
        self.assertIs(check_ranks(made(SMALLEST), {("m", (), None, 0, 0, 0): 0}, -1), False)

    def test_a_table_need_not_be_clean(self):
        lots = [("a", "c"), ("b", "c"), ("a", "b")]
        book = made(CRAFT, barred=lots)
        self.assertIs(check_ranks(book, self.ranks, self.bound), True)


if __name__ == "__main__":
    unittest.main()
