"""Points [53], [54] and [55]: wishes, crowds, rows of orders that bring a wish or miss it, and papers of crowds."""

import itertools
import random
import unittest

from farword.errors import FarError, InvalidInput, TooLarge
from farword.plans import best_row, brings, check_none, comes_of, meets, miss_of, none_paper
from farword.steps import ascending
from tests.plain import Plain, parts_by_chance
from tests.samples import PLAIN, SMALLEST, made

CRAFT = {
    "holds": ["a", "b", "c"],
    "modes": [("safe", (), ("a",)), ("work", ("a",), ())],
    "barred": [],
    "commands": [("go", ("safe",), (), (), "work"), ("on", ("work",), ("b",), (), None),
                 ("out", ("safe", "work"), (), ("b", "c"), None)],
    "alarms": [("x", ("c",), (), "safe"), ("y", (), ("b",), None)],
    "rows": [("r", ((1, "go"), (1, "on")))],
    "quiet": 4,
}
FIRST = ("safe", (), None, 0, 0, 0)


def all_lots(names):
    return [lot for many in range(len(names) + 1) for lot in itertools.combinations(sorted(names), many)]


def coming(plain, crowd, orders, alarms):
    """All that can come of the crowd by the row of orders, straight by the words."""
    now = set(crowd)
    for order in orders:
        now = {plain.tick(standing, lot, order)[0] for standing in now for lot in all_lots(alarms)}
    return now


def met(standing, wish):
    mode, on, off = wish
    lot = set(standing[1])
    return mode in (None, standing[0]) and lot >= set(on) and not lot & set(off)


def all_rows(plain, most):
    """All rows of at most so many orders, in order."""
    orders = [order for lot, order in plain.inputs() if lot == ()]
    for length in range(most + 1):
        for row in itertools.product(orders, repeat=length):
            yield list(row)


def some_crowd(plain, chance):
    standings = list(plain.first_histories(40))
    return ascending(chance.sample(standings, min(len(standings), chance.randint(1, 4))))


def some_wish(parts, chance):
    on = tuple(hold for hold in parts["holds"] if chance.random() < 0.3)
    off = tuple(hold for hold in parts["holds"] if hold not in on and chance.random() < 0.3)
    return (chance.choice([None, *[part[0] for part in parts["modes"]]]), on, off)


def cases(seeds):
    """Books by chance, each with a crowd, a wish and alarms."""
    for seed in seeds:
        chance = random.Random(seed)
        parts = parts_by_chance(seed, holds=3, modes=3, commands=2, alarms=2)
        plain = Plain(parts)
        alarms = tuple(sorted(part[0] for part in parts["alarms"] if chance.random() < 0.6))
        yield parts, plain, some_crowd(plain, chance), some_wish(parts, chance), alarms


class MeetsTest(unittest.TestCase):
    def test_wishes_with_and_without_a_mode(self):
        standing = ("work", ("a", "b"), "r", 0, 1, 2)
        for wish, answer in (((None, (), ()), True), (("work", (), ()), True), (("safe", (), ()), False),
                             ((None, ("a",), ()), True), ((None, ("a", "b"), ("c",)), True),
                             ((None, ("a", "c"), ()), False), ((None, ("c",), ()), False), ((None, (), ("b",)), False),
                             ((None, (), ("c",)), True), ((None, ("a",), ("b",)), False),
                             (("work", ("b",), ("c",)), True), (("safe", ("b",), ("c",)), False),
                             (("work", ("c",), ()), False), (("work", (), ("a", "c")), False),
                             (("", (), ()), False), ((None, ("a",), ("a",)), False)):
            with self.subTest(wish=wish):
                self.assertIs(meets(standing, wish), answer)

    def test_all_standings(self):
        for parts in (CRAFT, PLAIN):
            lots = all_lots(parts["holds"])
            for standing in Plain(parts).standings()[::29]:
                for wish in itertools.product([None, "safe", "work"], lots, lots):
                    self.assertIs(meets(standing, wish), met(standing, wish))


class ComesOfTest(unittest.TestCase):
    def setUp(self):
        self.book = made(CRAFT)

    def test_no_alarms(self):
        self.assertEqual(comes_of(self.book, [FIRST], ("do", "go"), ()), [("work", ("a",), None, 0, 0, 0)])
        self.assertEqual(comes_of(self.book, [FIRST], None, ()), [("safe", (), None, 0, 0, 1)])
        self.assertEqual(comes_of(self.book, [FIRST], ("do", "on"), ()), [FIRST])

    def test_alarms_that_may_come(self):
        self.assertEqual(comes_of(self.book, [("work", ("a", "b"), None, 0, 0, 0)], None, ("x", "y")), [
            ("safe", ("b", "c"), None, 0, 0, 1), ("safe", ("c",), None, 0, 0, 1), ("work", ("a",), None, 0, 0, 1),
            ("work", ("a", "b"), None, 0, 0, 1),
        ])
        self.assertEqual(comes_of(self.book, [("work", ("a", "b"), None, 0, 0, 0)], None, ("y",)), [
            ("work", ("a",), None, 0, 0, 1), ("work", ("a", "b"), None, 0, 0, 1)])

    def test_standings_come_once_and_ascend(self):
        crowd = [FIRST, ("safe", (), None, 0, 0, 1), ("safe", (), "r", 0, 1, 0), ("work", ("a",), None, 0, 0, 0)]
        self.assertEqual(comes_of(self.book, crowd, ("stop",), ()), [FIRST, ("work", ("a",), None, 0, 0, 0)])
        self.assertEqual(comes_of(self.book, crowd, None, ()), [
            ("safe", (), None, 0, 0, 1), ("safe", (), None, 0, 0, 2), ("work", ("a",), None, 0, 0, 1),
            ("work", ("a",), "r", 1, 1, 1)])

    def test_crowds_by_chance(self):
        for parts, plain, crowd, _, alarms in cases(range(60)):
            book = made(parts)
            before = list(crowd)
            for row in all_rows(plain, 1):
                if row:
                    expected = ascending(list(coming(plain, crowd, row, alarms)))
                    self.assertEqual(comes_of(book, crowd, row[0], alarms), expected)
            self.assertEqual(crowd, before)

    def test_wrong_orders(self):
        for order in (("do", "hop"), ("run", "go"), (), ("stop", "r"), ("wait",)):
            with self.assertRaises(InvalidInput) as caught:
                comes_of(self.book, [FIRST], order, ())
            self.assertIsInstance(caught.exception, FarError)


class BringsTest(unittest.TestCase):
    def setUp(self):
        self.book = made(CRAFT)

    def check(self, crowd, orders, wish, alarms, answer):
        before = (list(crowd), list(orders))
        self.assertIs(brings(self.book, crowd, orders, wish, alarms), answer)
        miss = miss_of(self.book, crowd, orders, wish, alarms)
        self.assertEqual((crowd, orders), before)
        self.check_miss(Plain(CRAFT), (crowd, orders, wish, alarms), miss, answer)

    def check_miss(self, plain, told, miss, answer):
        crowd, orders, wish, alarms = told
        if answer:
            self.assertIsNone(miss)
            return
        self.assertIsInstance(miss, tuple)
        standing, inputs = miss
        self.assertIn(standing, crowd)
        self.assertEqual([order for _, order in inputs], orders)
        self.assertTrue(all(lot in all_lots(alarms) for lot, _ in inputs))
        self.assertIs(met(plain.behind(standing, inputs), wish), False)

    def test_rows_of_no_order(self):
        self.check([FIRST], [], ("safe", (), ("a",)), (), True)
        self.check([FIRST], [], ("work", (), ()), (), False)
        self.check([FIRST, ("work", ("a",), None, 0, 0, 0)], [], ("safe", (), ()), ("x", "y"), False)
        self.check([FIRST, ("work", ("a",), None, 0, 0, 0)], [], (None, (), ("b", "c")), ("x", "y"), True)
        self.assertEqual(miss_of(self.book, [FIRST, ("work", ("a",), None, 0, 0, 0)], [], ("safe", (), ()), ()),
                         (("work", ("a",), None, 0, 0, 0), []))

    def test_rows_without_alarms(self):
        self.check([FIRST], [("do", "go"), ("do", "on")], ("work", ("a", "b"), ()), (), True)
        self.check([FIRST], [("run", "r"), None, None], ("work", ("a", "b"), ()), (), True)
        self.check([FIRST], [("run", "r"), None], ("work", ("a", "b"), ()), (), False)
        self.check([FIRST], [("do", "on"), ("do", "go")], ("work", ("a", "b"), ()), (), False)
        self.check([FIRST], [None] * 40, (None, (), ("a", "b", "c")), (), True)

    def test_rows_with_alarms_that_may_come(self):
        self.check([FIRST], [("do", "go"), ("do", "on")], ("work", ("a", "b"), ()), ("y",), True)
        self.check([FIRST], [("do", "go"), ("do", "on")], ("work", ("a", "b"), ()), ("x",), False)
        self.check([FIRST], [("run", "r"), None, None], (None, ("b",), ()), ("y",), False)
        self.check([FIRST], [("do", "go"), ("do", "go")], ("work", (), ()), ("x",), True)
        self.check([FIRST], [("do", "go"), ("do", "out")], (None, (), ("b",)), ("x", "y"), True)

    def test_only_the_end_counts(self):
        self.check([("safe", ("c",), None, 0, 0, 0)], [("do", "out"), None], (None, (), ("c",)), (), True)
        self.check([("safe", (), None, 0, 0, 0)], [None, None], (None, (), ("c",)), ("x",), False)

    def test_one_standing_of_a_crowd_that_misses(self):
        crowd = ascending([FIRST, ("work", ("a",), None, 0, 0, 0), ("work", ("a", "b"), None, 0, 0, 0)])
        self.check(crowd, [("do", "go"), ("do", "on")], ("work", ("a", "b"), ()), (), True)
        crowd = ascending([*crowd, ("work", ("a", "c"), None, 0, 0, 0)])
        self.check(crowd, [("do", "go"), ("do", "on")], ("work", ("a", "b"), ("c",)), (), False)
        miss = miss_of(self.book, crowd, [("do", "go"), ("do", "on")], ("work", ("a", "b"), ("c",)), ())
        self.assertEqual(miss, (("work", ("a", "c"), None, 0, 0, 0), [((), ("do", "go")), ((), ("do", "on"))]))

    def test_rows_by_chance(self):
        counts = [0, 0]
        for parts, plain, crowd, wish, alarms in cases(range(60)):
            chance, book = random.Random(1), made(parts)
            rows = list(all_rows(plain, 2))
            for row in chance.sample(rows, min(len(rows), 20)):
                answer = all(met(standing, wish) for standing in coming(plain, crowd, row, alarms))
                counts[answer] += 1
                self.assertIs(brings(book, crowd, row, wish, alarms), answer)
                self.check_miss(plain, (crowd, row, wish, alarms), miss_of(book, crowd, row, wish, alarms), answer)
        self.assertGreater(min(counts), 100)

    def test_wrong_orders(self):
        wish = (None, (), ())
        for bad in (("do", "hop"), ("run", "go"), (), ("wait",)):
            for row in ([bad], [None, bad], [bad, ("stop",)], [("do", "go"), bad, None]):
                for ask in (brings, miss_of):
                    before = list(row)
                    with self.assertRaises(InvalidInput):
                        ask(self.book, [FIRST], row, wish, ())
                    self.assertEqual(row, before)


class BestRowTest(unittest.TestCase):
    def setUp(self):
        self.book = made(CRAFT)

    def test_a_wish_that_is_met_at_once(self):
        for most in (0, 1, 6):
            self.assertEqual(best_row(self.book, [FIRST], ("safe", (), ("a",)), ("x", "y"), most), [])

    def test_no_orders_are_let(self):
        self.assertIsNone(best_row(self.book, [FIRST], ("work", (), ()), (), 0))
        self.assertEqual(best_row(self.book, [FIRST], ("work", (), ()), (), 1), [("do", "go")])

    def test_the_least_length(self):
        wish = ("work", ("a", "b"), ())
        self.assertIsNone(best_row(self.book, [FIRST], wish, (), 1))
        for most in (2, 3, 6):
            self.assertEqual(best_row(self.book, [FIRST], wish, (), most), [("do", "go"), ("do", "on")])

    def test_the_first_one_of_the_least_length(self):
        book = made(SMALLEST, commands=[(name, ("m",), ("a",), (), None) for name in ("z", "b", "k")],
                    rows=[("q", ((1, "z"),)), ("p", ((1, "z"),))], alarms=[("x", (), ("a",), None)])
        first = ("m", (), None, 0, 0, 0)
        self.assertEqual(best_row(book, [first], (None, ("a",), ()), ("x",), 6), [("do", "b")])
        # None comes ahead of all orders: here something happens by itself.
        running = ("m", (), "q", 0, 1, 0)
        self.assertEqual(best_row(book, [running], (None, ("a",), ()), (), 6), [None])
        self.assertEqual(best_row(book, [running], (None, ("a",), ()), ("x",), 6), [("do", "b")])
        other = book.without_part("command", "b").without_part("command", "k")
        other = other.with_part("command", ("z", (), (), (), None))
        self.assertIsNone(best_row(other, [first], (None, ("a",), ()), (), 6))

    def test_rows_are_ordered_by_name(self):
        commands = [("c", ("n",), ("a",), (), None), ("d", ("m",), (), (), "n")]
        parts = {**SMALLEST, "modes": [("m", (), ()), ("n", (), ())], "commands": commands,
                 "rows": [("q", ((1, "d"), (1, "c"))), ("p", ((1, "d"), (1, "c")))]}
        self.assertEqual(best_row(made(parts), [("m", (), None, 0, 0, 0)], (None, ("a",), ()), (), 6),
                         [("do", "d"), ("do", "c")])
        parts = {**parts, "commands": [("c", ("n",), ("a",), (), None), ("d", (), (), (), "n")],
                 "rows": [("q", ((1, "c"),)), ("p", ((1, "c"),))]}
        self.assertEqual(best_row(made(parts), [("n", (), None, 0, 0, 0)], (None, ("a",), ()), (), 6), [("do", "c")])

    def test_rows_by_chance(self):
        lengths = set()
        for parts, plain, crowd, wish, alarms in cases(range(120)):
            expected = next((row for row in all_rows(plain, 3) if all(
                met(standing, wish) for standing in coming(plain, crowd, row, alarms))), None)
            before = list(crowd)
            self.assertEqual(best_row(made(parts), crowd, wish, alarms, 3), expected)
            self.assertEqual(crowd, before)
            lengths.add(None if expected is None else len(expected))
        self.assertLessEqual({None, 0, 1, 2}, lengths)

    def test_lists_are_new(self):
        ask = (self.book, [FIRST], ("work", (), ()), (), 3)
        best_row(*ask).append(None)
        self.assertEqual(best_row(*ask), [("do", "go")])


def counting(holds, ticks, quiet):
    """A book whose crowds of one standing are counted below; its commands turn on one hold each."""
    return {**SMALLEST, "holds": list(holds), "commands": [(f"on{hold}", ("m",), (hold,), (), None) for hold in holds],
            "rows": [(f"r{k}", ((many, "ona"),)) for k, many in enumerate(ticks)], "quiet": quiet}


def count_crowds(parts, most):
    """How many crowds come of the first standing, with no alarms, by rows of at most 0, 1 and more orders."""
    plain, first = Plain(parts), ("m", (), None, 0, 0, 0)
    found, last, counts = {first}, {first}, [1]
    for _ in range(most):
        last = {plain.tick(standing, *told)[0] for standing in last for told in plain.inputs()} - found
        found |= last
        counts.append(len(found))
    return counts


class TooLargeTest(unittest.TestCase):
    def setUp(self):
        self.first = ("m", (), None, 0, 0, 0)
        self.just = counting("abcd", (4, 5, 5), 3)
        self.more = counting("abcdef", (2, 2), 5)

    def test_the_numbers_of_crowds(self):
        self.assertEqual(count_crowds(self.just, 6), [1, 9, 47, 154, 333, 500, 544])
        self.assertEqual(count_crowds(self.more, 5), [1, 10, 58, 172, 339, 501])

    def test_no_row(self):
        never = (None, ("a",), ("a",))
        for ask in (best_row, none_paper):
            ask(made(self.just), [self.first], never, (), 5)
            ask(made(self.more), [self.first], never, (), 4)
            with self.assertRaises(TooLarge) as caught:
                ask(made(self.just), [self.first], never, (), 6)
            self.assertIsInstance(caught.exception, FarError)
            with self.assertRaises(TooLarge):
                ask(made(self.more), [self.first], never, (), 5)

    def test_crowds_up_to_the_length_of_the_row(self):
        four, five = (None, tuple("abcd"), ()), (None, tuple("abcde"), ())
        row = [("do", f"on{hold}") for hold in "abcd"]
        for most in (4, 5, 6):
            self.assertEqual(best_row(made(self.more), [self.first], four, (), most), row)
            self.assertIsNone(none_paper(made(self.more), [self.first], four, (), most))
        # A row of five orders would bring it, but all crowds that come by as many are counted.
        for ask in (best_row, none_paper):
            for most in (5, 6):
                with self.assertRaises(TooLarge):
                    ask(made(self.more), [self.first], five, (), most)
        self.assertTrue(brings(made(self.more), [self.first], [*row, ("do", "one")], five, ()))
        self.assertIsNone(best_row(made(self.more), [self.first], five, (), 4))

    def test_large_papers_can_be_checked(self):
        book = made(self.just)
        paper = none_paper(book, [self.first], (None, ("a",), ("a",)), (), 5)
        self.assertIs(check_none(book, [self.first], (None, ("a",), ("a",)), (), paper), True)


class PaperTest(unittest.TestCase):
    def setUp(self):
        self.book = made(CRAFT)
        self.wish = ("work", ("a", "b"), ("c",))
        self.told = ([FIRST], self.wish, ("x", "y"))
        self.paper = none_paper(self.book, *self.told, 3)

    def check(self, paper, answer):
        before = [[list(crowd) for crowd in crowds] for crowds in paper]
        self.assertIs(check_none(self.book, *self.told, paper), answer)
        self.assertEqual(paper, before)

    def test_a_paper_as_it_is_told(self):
        self.assertEqual(len(self.paper), 4)
        self.check(self.paper, True)
        self.check(self.paper[:1], True)
        self.check([[crowd[::-1] for crowd in crowds][::-1] for crowds in self.paper], True)
        self.check([crowds + crowds for crowds in self.paper], True)

    def test_a_list_less(self):
        for at in range(1, 4):
            self.check(self.paper[:at], True)
        # Its second list has a crowd that is part of the first crowd, as an order may lead back to that.
        self.assertIs(self.holds(self.paper[1:]), True)
        self.check(self.paper[1:], True)
        later = [[crowd for crowd in crowds if crowd != [FIRST]] for crowds in self.paper[1:]]
        self.check(later, False)
        self.check([], False)

    def test_a_crowd_left_out(self):
        for at, crowds in enumerate(self.paper):
            for left in range(len(crowds)):
                less = crowds[:left] + crowds[left + 1:]
                self.check([*self.paper[:at], less, *self.paper[at + 1:]],
                           self.holds([*self.paper[:at], less, *self.paper[at + 1:]]))
            self.check([*self.paper[:at], [], *self.paper[at + 1:]], False)

    def holds(self, paper):
        """Whether the paper shows it, straight by the words."""
        plain = Plain(CRAFT)
        crowd, wish, alarms = self.told
        sets = [[set(told) for told in crowds] for crowds in paper]
        orders = [order for lot, order in plain.inputs() if lot == ()]
        return (len(paper) > 0 and any(told <= set(crowd) for told in sets[0])
                and not any(all(met(standing, wish) for standing in told) for crowds in sets for told in crowds)
                and all(any(part <= coming(plain, told, [order], alarms) for part in behind)
                        for here, behind in zip(sets, sets[1:]) for told in here for order in orders))

    def test_a_crowd_put_in(self):
        bad = [("work", ("a", "b"), None, 0, 0, 0)]
        for at, crowds in enumerate(self.paper):
            self.check([*self.paper[:at], [*crowds, bad], *self.paper[at + 1:]], False)
            self.check([*self.paper[:at], [[], *crowds], *self.paper[at + 1:]], False)
        self.check([*self.paper[:-1], [*self.paper[-1], [FIRST]]], True)
        self.check([*self.paper[:-1], [*self.paper[-1], [FIRST, *bad]]], True)

    def test_a_standing_more_or_less(self):
        answers = []
        for at, crowds in enumerate(self.paper):
            for which, crowd in enumerate(crowds):
                for changed in [crowd + [("safe", ("a", "b", "c"), None, 0, 0, 3)], crowd[1:], crowd[:-1]]:
                    paper = [list(other) for other in self.paper]
                    paper[at][which] = changed
                    answers.append(self.holds(paper))
                    self.check(paper, answers[-1])
        self.assertEqual(set(answers), {False, True})

    def test_another_crowd(self):
        work = ("work", ("a",), None, 0, 0, 0)
        self.assertIs(check_none(self.book, [FIRST, work], self.wish, ("x", "y"), self.paper), True)
        self.assertIs(check_none(self.book, [work], self.wish, ("x", "y"), self.paper), False)

    def test_other_alarms_and_another_wish(self):
        self.assertIs(check_none(self.book, [FIRST], self.wish, (), self.paper), False)
        self.assertIs(check_none(self.book, [FIRST], (None, (), ()), ("x", "y"), self.paper), False)
        self.assertIs(check_none(self.book, [FIRST], ("safe", (), ()), ("x", "y"), self.paper), False)

    def test_some_row_brings_the_wish(self):
        self.assertIsNone(none_paper(self.book, [FIRST], ("work", (), ()), (), 1))
        self.assertIsNone(none_paper(self.book, [FIRST], ("safe", (), ()), ("x", "y"), 0))
        paper = none_paper(self.book, [FIRST], ("work", (), ()), (), 0)
        self.assertIs(check_none(self.book, [FIRST], ("work", (), ()), (), paper), True)
        self.assertEqual(paper, [[[FIRST]]])

    def test_papers_by_chance(self):
        papers = 0
        for parts, plain, crowd, wish, alarms in cases(range(80)):
            book = made(parts)
            for most in (0, 1, 3):
                row, before = best_row(book, crowd, wish, alarms, most), list(crowd)
                paper = none_paper(book, crowd, wish, alarms, most)
                self.assertEqual(crowd, before)
                self.assertEqual(paper is None, row is not None)
                if paper is not None:
                    papers += 1
                    self.assertEqual(len(paper), most + 1)
                    self.assertIs(check_none(book, crowd, wish, alarms, paper), True)
                    self.assertTrue(all(told == ascending(told) for crowds in paper for told in crowds))
        self.assertGreater(papers, 50)

    def test_a_paper_shows_what_is_so(self):
        # No paper with more lists than the length of the best row can be right.
        for parts, plain, crowd, wish, alarms in cases(range(80)):
            book = made(parts)
            row = best_row(book, crowd, wish, alarms, 2)
            if row is not None:
                every = [[[standing] for standing in plain.standings() if not met(standing, wish)]] * (len(row) + 1)
                self.assertIs(check_none(book, crowd, wish, alarms, every), False)
                if len(row) > 0:
                    self.assertIs(check_none(book, crowd, wish, alarms,
                                             none_paper(book, crowd, wish, alarms, len(row) - 1)), True)

    def test_lists_are_new(self):
        for crowds in self.paper:
            for crowd in crowds:
                crowd.clear()
            crowds.clear()
        self.assertIs(check_none(self.book, *self.told, none_paper(self.book, *self.told, 3)), True)


if __name__ == "__main__":
    unittest.main()
