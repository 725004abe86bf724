"""Points [28] and [29]: books that are alike, parting histories, lists of pairs, and what is needless."""

import unittest

from farword.alike import (can_be_compared, check_pairs, needless_alarms, needless_commands, pairs_of, parting_history)
from farword.closed import reached
from farword.errors import FarError, InvalidBook, TooLarge
from tests.plain import Plain, parts_by_chance
from tests.samples import ONE_TOO_MANY, PLAIN, SMALLEST, WIDEST, made

CRAFT = {
    "holds": ["a", "b"],
    "modes": [("safe", (), ("a",)), ("work", ("a",), ())],
    "barred": [("a", "b")],
    "commands": [("go", ("safe",), (), (), "work"), ("turn", ("safe", "work"), ("b",), (), None)],
    "alarms": [("y", (), ("b",), "safe"), ("x", ("b",), (), None)],
    "rows": [("r", ((1, "turn"), (2, "go"))), ("q", ((3, "go"),))],
    "quiet": 3,
}
# Other parts with the same names, each with whether the book is then alike to the one above.
OTHERS = [
    ({"barred": []}, True),
    ({"modes": [*CRAFT["modes"], ("idle", ("b",), ())]}, True),
    ({"rows": CRAFT["rows"][::-1]}, True),
    ({"holds": ["b", "a"], "commands": CRAFT["commands"][::-1]}, True),
    ({"modes": [("safe", (), ("a",)), ("work", ("a",), ("b",))]}, False),
    ({"modes": [("safe", ("b",), ("a",)), ("work", ("a",), ())]}, False),
    ({"modes": CRAFT["modes"][::-1]}, False),
    ({"commands": [CRAFT["commands"][0], ("turn", ("safe",), ("b",), (), None)]}, False),
    ({"commands": [CRAFT["commands"][0], ("turn", ("safe", "work"), ("b",), ("a",), None)]}, False),
    ({"commands": [("go", ("safe",), ("a",), (), "work"), CRAFT["commands"][1]]}, True),
    ({"commands": [("go", ("safe",), ("a",), (), None), CRAFT["commands"][1]]}, False),
    ({"alarms": CRAFT["alarms"][::-1]}, False),
    ({"alarms": [("y", (), ("b",), "safe"), ("x", ("b",), ("a",), None)]}, False),
    ({"rows": [("r", ((1, "turn"), (3, "go"))), ("q", ((3, "go"),))]}, False),
    ({"rows": [("r", ((1, "turn"),)), ("q", ((3, "go"),))]}, False),
    ({"rows": [("r", ((1, "turn"), (2, "go"))), ("q", ((3, "turn"),))]}, False),
    ({"quiet": 4}, False),
    ({"quiet": 2}, False),
    ({"quiet": None}, False),
]
NOT_COMPARED = [
    {"holds": ["a", "b", "c"]},
    {"commands": CRAFT["commands"] + [("new", (), (), (), None)]},
    {"commands": [CRAFT["commands"][0], ("spin", ("safe", "work"), ("b",), (), None)], "rows": [("r", ((1, "go"),)),
                                                                                                ("q", ((3, "go"),))]},
    {"alarms": CRAFT["alarms"][:1]},
    {"alarms": [CRAFT["alarms"][0], ("z", ("b",), (), None)]},
    {"alarms": []},
    {"rows": CRAFT["rows"][:1]},
    {"rows": [CRAFT["rows"][0], ("p", ((3, "go"),))]},
    {"rows": []},
]


def shows_alike(one, other, history):
    """Whether the ticks of the history show the same in both, straight by the words."""
    return (one.first()[1] == other.first()[1]
            and one.shown(one.first(), history) == other.shown(other.first(), history))


def first_parting(one, other, most):
    """The first history of at most so many ticks that does not show the same in both, or None."""
    for history in one.histories(most):
        if not shows_alike(one, other, history):
            return history
    return None


def pairs_in_order(one, other):
    """All pairs that histories lead to, in order, straight by the words."""
    pairs = [(one.first(), other.first())]
    for pair in pairs:
        for told in one.inputs():
            behind = (one.tick(pair[0], *told)[0], other.tick(pair[1], *told)[0])
            if behind not in pairs:
                pairs.append(behind)
    return pairs


def variants(parts, seed):
    """The parts, changed in one thing by those of another book by chance."""
    other = parts_by_chance(seed + 1000, holds=2, modes=2, commands=2, alarms=2)
    for name in ("modes", "commands", "alarms", "rows", "quiet"):
        changed = {**parts, name: other[name]}
        try:
            if can_be_compared(made(parts), made(changed)):
                yield changed
        except InvalidBook:
            pass


class ComparedTest(unittest.TestCase):
    def test_books_that_can_be_compared(self):
        for changes, _ in OTHERS:
            with self.subTest(changes=changes):
                self.assertIs(can_be_compared(made(CRAFT), made(CRAFT, **changes)), True)
                self.assertIs(can_be_compared(made(CRAFT, **changes), made(CRAFT)), True)

    def test_names_of_modes_do_not_count(self):
        renamed = made(CRAFT, modes=[("m", (), ())], commands=[("go", (), (), (), "m"), ("turn", ("m",), (), (), None)],
                       alarms=[("y", (), (), "m"), ("x", (), (), None)])
        self.assertIs(can_be_compared(made(CRAFT), renamed), True)

    def test_books_that_cannot_be_compared(self):
        for changes in NOT_COMPARED:
            one, other = made(CRAFT), made(CRAFT, **changes)
            for first, second in ((one, other), (other, one)):
                with self.subTest(changes=changes):
                    self.assertIs(can_be_compared(first, second), False)
                    for ask in (parting_history, pairs_of):
                        with self.assertRaises(InvalidBook) as caught:
                            ask(first, second)
                        self.assertIsInstance(caught.exception, FarError)
                    for pairs in ([], [(("safe", (), None, 0, 0, 0),) * 2], [(("nap", (), None, 0, 0, 0),) * 2]):
                        with self.assertRaises(InvalidBook):
                            check_pairs(first, second, pairs)


class PartingTest(unittest.TestCase):
    def test_the_same_book(self):
        for parts in (CRAFT, PLAIN, SMALLEST):
            self.assertIsNone(parting_history(made(parts), made(parts)))
            self.assertEqual(pairs_of(made(parts), made(parts)), [(one, one) for one in reached(made(parts))])

    def test_other_names_of_modes(self):
        names = {"safe": "z", "work": "b", None: None}
        other = made(CRAFT, modes=[(names[name], on, off) for name, on, off in CRAFT["modes"]],
                     commands=[(name, tuple(sorted(names[mode] for mode in let)), on, off, names[to])
                               for name, let, on, off, to in CRAFT["commands"]],
                     alarms=[(name, on, off, names[to]) for name, on, off, to in CRAFT["alarms"]])
        self.assertIsNone(parting_history(made(CRAFT), other))
        pairs = [(one, (names[one[0]], *one[1:])) for one in reached(made(CRAFT))]
        self.assertEqual(pairs_of(made(CRAFT), other), pairs)
        self.assertIs(check_pairs(made(CRAFT), other, pairs), True)

    def test_each_change(self):
        for changes, alike in OTHERS:
            one, other = made(CRAFT), made(CRAFT, **changes)
            with self.subTest(changes=changes):
                history, pairs = parting_history(one, other), pairs_of(one, other)
                self.assertEqual((history is None, pairs is not None), (alike, alike))
                if alike:
                    self.assertEqual(pairs, pairs_in_order(Plain(CRAFT), Plain({**CRAFT, **changes})))
                    self.assertIs(check_pairs(one, other, pairs), True)
                else:
                    self.check_parting(Plain(CRAFT), Plain({**CRAFT, **changes}), history)
                    self.assertEqual(parting_history(other, one), history)

    def check_parting(self, one, other, history):
        self.assertIs(shows_alike(one, other, history), False)
        self.assertTrue(history == [] or shows_alike(one, other, history[:-1]))
        self.assertEqual(first_parting(one, other, min(len(history), 2)), history if len(history) <= 2 else None)

    def test_books_that_differ_ahead_of_all_ticks(self):
        other = made(CRAFT, modes=[("safe", ("b",), ("a",)), ("work", ("a",), ())])
        self.assertEqual(parting_history(made(CRAFT), other), [])
        self.assertIsNone(pairs_of(made(CRAFT), other))

    def test_the_first_one_of_several(self):
        # Both commands and both alarms part the books at once; the first input that parts them is told.
        one = made(CRAFT, rows=[])
        commands = [(name, let, (), (), None) for name, let, *_ in CRAFT["commands"]]
        alarms = [(name, (), (), None) for name, *_ in CRAFT["alarms"]]
        other = made(CRAFT, rows=[], commands=commands, alarms=alarms)
        self.assertEqual(parting_history(one, other), [((), ("do", "go"))])
        self.assertEqual(parting_history(one, made(CRAFT, rows=[], alarms=alarms)), [(("x",), None)])
        self.assertEqual(parting_history(made(CRAFT), made(CRAFT, quiet=2)),
                         [((), ("do", "go")), ((), None), ((), None)])
        self.assertEqual(parting_history(made(CRAFT), made(CRAFT, rows=[("r", CRAFT["rows"][1][1]), CRAFT["rows"][1]])),
                         [((), ("run", "r")), ((), None)])

    def test_commands_done_in_another_order(self):
        parts = {**SMALLEST, "commands": [("c", ("m",), (), (), None), ("d", ("m",), (), (), None)]}
        one, other = (made(parts, rows=[("r", ((1, name),))]) for name in ("c", "d"))
        self.assertEqual(parting_history(one, other), [((), ("run", "r")), ((), None)])

    def test_a_refused_command_shows(self):
        one = made(SMALLEST, commands=[("c", ("m",), (), (), None)])
        other = made(SMALLEST, commands=[("c", (), (), (), None)])
        self.assertEqual(parting_history(one, other), [((), ("do", "c"))])

    def test_first_partings_among_all_histories(self):
        parted = 0
        for seed in range(60):
            parts = parts_by_chance(seed, holds=2, modes=2, commands=2, alarms=2)
            for changed in variants(parts, seed):
                history = parting_history(made(parts), made(changed))
                expected = first_parting(Plain(parts), Plain(changed), 2)
                if history is None or len(history) > 2:
                    self.assertIsNone(expected)
                else:
                    parted += 1
                    self.assertEqual(history, expected)
        self.assertGreater(parted, 30)

    def test_lists_are_new(self):
        one, other = made(CRAFT), made(CRAFT, quiet=2)
        parting_history(one, other).clear()
        self.assertEqual(len(parting_history(one, other)), 3)
        pairs_of(one, one).clear()
        self.assertEqual(len(pairs_of(one, one)), len(reached(one)))


class LargeTest(unittest.TestCase):
    def test_two_thousand_pairs(self):
        book = made(WIDEST)
        pairs = [(one, one) for one in reached(book)]
        self.assertIsNone(parting_history(book, made(WIDEST)))
        self.assertEqual(pairs_of(book, made(WIDEST)), pairs)
        self.assertIs(check_pairs(book, book, pairs), True)
        self.assertIs(check_pairs(book, book, pairs[:-1]), False)

    def test_more_pairs(self):
        book = made(ONE_TOO_MANY)
        for ask in (parting_history, pairs_of):
            with self.assertRaises(TooLarge):
                ask(book, made(ONE_TOO_MANY))

    def test_a_parting_history_ahead_of_too_many_pairs(self):
        book = made(ONE_TOO_MANY)
        other = made(ONE_TOO_MANY, alarms=[*ONE_TOO_MANY["alarms"][:3], ("toone", (), (), "two")])
        self.assertEqual(parting_history(book, other), [((), ("do", "on")), (("toone",), None)])
        self.assertIsNone(pairs_of(book, other))

    def test_a_parting_history_behind_too_many_pairs(self):
        # Only the entering of the safe mode at quiet parts these books.
        turning = [("m0", (), ("a",)), *WIDEST["modes"][1:]]
        waits = [((), None)] * 25
        self.assertEqual(parting_history(made(WIDEST), made(WIDEST, modes=turning)), [((), ("do", "ona")), *waits])
        for ask in (parting_history, pairs_of):
            with self.assertRaises(TooLarge):
                ask(made(WIDEST, quiet=30), made(WIDEST, modes=turning, quiet=30))


class CheckPairsTest(unittest.TestCase):
    def setUp(self):
        self.one = made(CRAFT)
        self.other = made(CRAFT, modes=[*CRAFT["modes"], ("idle", (), ())], barred=[])
        self.pairs = pairs_of(self.one, self.other)

    def check(self, pairs, answer):
        before = list(pairs)
        self.assertIs(check_pairs(self.one, self.other, pairs), answer)
        self.assertEqual(pairs, before)

    def test_pairs_in_any_order(self):
        self.check(self.pairs, True)
        self.check(self.pairs[::-1], True)
        self.check(self.pairs + self.pairs[:2], True)

    def test_a_pair_left_out(self):
        for at in range(len(self.pairs)):
            self.check(self.pairs[:at] + self.pairs[at + 1:], False)
        self.check([], False)

    def test_a_pair_put_in(self):
        # Only what comes of it in both counts for a pair that no history leads to.
        self.check([*self.pairs, (("safe", ("a",), None, 0, 0, 2), ("idle", ("a",), None, 0, 0, 2))], False)
        self.check([*self.pairs, (("safe", (), None, 0, 0, 0), ("safe", ("b",), None, 0, 0, 0))], False)
        every = [(standing, standing) for standing in Plain(CRAFT).standings()]
        self.check(every, True)
        self.check(every[1:], False)

    def test_a_pair_that_shows_another_hold_only_now(self):
        modes = [("safe", (), ("a", "b"))]
        parts = {**SMALLEST, "holds": ["a", "b"], "modes": modes, "quiet": 1,
                 "alarms": [("x", (), (), "safe")]}
        book = made(parts)
        first = ("safe", (), None, 0, 0, 0)
        unlike = (("safe", ("a",), None, 0, 0, 0), ("safe", ("b",), None, 0, 0, 0))
        # An order leaves the holds of that pair as they are, so that they show.
        self.assertIs(check_pairs(book, book, [(first, first)]), True)
        self.assertIs(check_pairs(book, book, [(first, first), unlike]), False)

    def test_exchanged_pairs(self):
        exchanged = [(other, one) for one, other in self.pairs]
        self.check(exchanged, True)
        turned = made(CRAFT, modes=[("safe", (), ("a",)), ("work", ("a",), ()), ("same", ("a",), ())],
                      commands=[("go", ("safe",), (), (), "same"), ("turn", ("safe", "same"), ("b",), (), None)])
        pairs = pairs_of(self.one, turned)
        self.assertIs(check_pairs(self.one, turned, pairs), True)
        self.assertIs(check_pairs(turned, self.one, pairs), False)
        self.assertIs(check_pairs(turned, self.one, [(other, one) for one, other in pairs]), True)
        self.assertIs(check_pairs(self.one, turned, [(other, one) for one, other in pairs]), False)
        mixed = [*pairs[:-2], (pairs[-2][0], pairs[-1][1]), (pairs[-1][0], pairs[-2][1])]
        self.assertIs(check_pairs(self.one, turned, mixed), False)

    def test_tuples_that_are_no_standings(self):
        good = ("safe", (), None, 0, 0, 0)
        for value in (("nap", (), None, 0, 0, 0), ("safe", ("b", "a"), None, 0, 0, 0), ("safe", (), None, 0, 0, 3),
                      ("safe", (), "r", 0, 2, 0)):
            for pair in ((value, good), (good, value), (value, value)):
                self.check([*self.pairs, pair], False)
                self.check([pair, *self.pairs], False)
        self.check([*self.pairs, (("idle", (), None, 0, 0, 0), good)], False)

    def test_tuples_that_are_no_standings_and_lead_nowhere(self):
        book, good = made(SMALLEST), ("m", (), None, 0, 0, 0)
        self.assertIs(check_pairs(book, book, [(good, good)]), True)
        for value in (("nap", (), None, 0, 0, 0), ("m", ("b",), None, 0, 0, 0)):
            for pair in ((value, good), (good, value), (value, value)):
                self.assertIs(check_pairs(book, book, [(good, good), pair]), False)

    def test_books_that_are_not_alike(self):
        for changes, alike in OTHERS:
            other = made(CRAFT, **changes)
            pairs = pairs_in_order(Plain(CRAFT), Plain({**CRAFT, **changes}))
            self.assertIs(check_pairs(self.one, other, pairs), alike)

    def test_first_standings_with_unlike_holds(self):
        one = made(SMALLEST, modes=[("m", (), ())], quiet=None)
        other = made(SMALLEST, modes=[("m", ("a",), ())], quiet=None)
        pairs = [(("m", (), None, 0, 0, 0), ("m", ("a",), None, 0, 0, 0)), (("m", (), None, 0, 0, 0),) * 2]
        self.assertIs(check_pairs(one, other, pairs[:1]), False)
        self.assertIs(check_pairs(one, other, pairs), False)
        self.assertIs(check_pairs(one, one, pairs[1:]), True)


class NeedlessTest(unittest.TestCase):
    def test_alarms_and_commands(self):
        parts = {
            "holds": ["a", "b"],
            "modes": [("safe", (), ("a",)), ("work", ("a",), ())],
            "barred": [],
            "commands": [("go", ("safe",), (), (), "work"), ("lost", ("idle",), ("a",), (), None),
                         ("none", (), ("a",), (), "work"), ("same", ("work",), ("a",), (), None)],
            "alarms": [("z", (), (), None), ("y", ("b",), (), None), ("x", (), ("a",), "safe"), ("w", (), (), None)],
            "rows": [],
            "quiet": None,
        }
        parts["modes"].append(("idle", (), ()))
        book = made(parts)
        self.assertEqual(needless_alarms(book), ["z", "w"])
        self.assertEqual(needless_commands(book), ["lost", "none"])

    def test_an_alarm_whose_effect_is_always_so(self):
        book = made(SMALLEST, modes=[("m", ("a",), ())], alarms=[("x", ("a",), (), "m"), ("y", (), ("a",), "m")])
        self.assertEqual(needless_alarms(book), ["x", "y"])
        book = made(SMALLEST, modes=[("m", ("a",), ())], alarms=[("x", ("a",), (), "m"), ("y", (), ("a",), None)])
        self.assertEqual(needless_alarms(book), [])
        self.assertEqual(needless_alarms(made(SMALLEST, modes=[("m", ("a",), ())], alarms=[("x", ("a",), (), "m")])),
                         ["x"])

    def test_an_alarm_that_only_stops_rows(self):
        book = made(CRAFT, alarms=[("y", (), (), None), ("x", ("b",), (), None)])
        self.assertEqual(needless_alarms(book), ["y"])

    def test_each_one_straight_by_the_words(self):
        counts = [0, 0, 0, 0]
        for seed in range(40):
            parts = parts_by_chance(seed, holds=2, modes=2, commands=3, alarms=3)
            book = made(parts)
            alarms = [part[0] for part in parts["alarms"]
                      if parting_history(book, book.with_part("alarm", (part[0], (), (), None))) is None]
            commands = [part[0] for part in sorted(parts["commands"])
                        if parting_history(book, book.with_part("command", (part[0], (), *part[2:]))) is None]
            self.assertEqual((needless_alarms(book), needless_commands(book)), (alarms, commands))
            counts[0] += len(alarms)
            counts[1] += len(parts["alarms"]) - len(alarms)
            counts[2] += len(commands)
            counts[3] += len(parts["commands"]) - len(commands)
        self.assertGreater(min(counts), 3)

    def test_no_alarms_and_no_commands(self):
        self.assertEqual((needless_alarms(made(SMALLEST)), needless_commands(made(SMALLEST))), ([], []))

    def test_large_books(self):
        book = made(ONE_TOO_MANY, alarms=[("none", (), (), None), *ONE_TOO_MANY["alarms"][1:]])
        for ask in (needless_alarms, needless_commands):
            with self.assertRaises(TooLarge):
                ask(book)
        # Here each alarm is parted early.
        self.assertEqual(needless_alarms(made(ONE_TOO_MANY)), [])
        # No comparison of commands goes far where all of them are parted early.
        self.assertEqual(needless_commands(made(WIDEST)), [])

    def test_lists_are_new(self):
        book = made(SMALLEST, alarms=[("x", (), (), None)], commands=[("c", (), (), (), None)])
        for ask, name in ((needless_alarms, "x"), (needless_commands, "c")):
            ask(book).clear()
            self.assertEqual(ask(book), [name])


if __name__ == "__main__":
    unittest.main()
