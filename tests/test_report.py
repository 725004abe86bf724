"""Point [60]: reports."""

import random
import unittest

from farword.errors import InvalidInput
from farword.report import history_table, standing_line
from tests.plain import Plain, parts_by_chance
from tests.samples import PLAIN, SMALLEST, made

# The order refuses or does a command, and the row does another one in the same tick.
BUSY = {
    "holds": ["a", "b"],
    "modes": [("m", (), ()), ("n", (), ())],
    "barred": [("a", "b")],
    "commands": [("x", ("m",), ("b",), (), None), ("w", ("m",), ("a",), (), None), ("z", (), (), (), None),
                 ("u", ("m",), (), ("b",), "n")],
    "alarms": [("t", ("a", "b"), (), "n"), ("s", (), ("a", "b"), "m")],
    "rows": [("r", ((1, "x"), (2, "w")))],
    "quiet": 3,
}


def table_by_hand(plain, inputs):
    """The table of a history, straight by points [10], [12] and [60]."""
    standing, lines = plain.first(), []
    for at, (alarms, order) in enumerate(inputs):
        standing, done, refused, moments = plain.tick(standing, alarms, order)
        line = f"{at + 1}: {','.join(alarms) or '-'} {' '.join(order or ('wait',))} -> "
        line += f"{standing[0]} {','.join(standing[1]) or '-'}"
        line += f" done {','.join(done)}" * (len(done) > 0) + f" refused {','.join(refused)}" * (len(refused) > 0)
        lines.append(line + " BARRED" * any(plain.is_barred_lot(lot) for lot in moments))
    return "\n".join(lines)


class StandingLineTest(unittest.TestCase):
    def test_lines(self):
        for standing, line in ((("safe", (), None, 0, 0, 0), "safe - - 0 0 0"),
                               (("work", ("cam",), None, 0, 0, 29), "work cam - 0 0 29"),
                               (("m", ("a", "b", "c"), "plan", 3, 9, 7), "m a,b,c plan 3 9 7"),
                               (("m", (), "r", 0, 1, 0), "m - r 0 1 0")):
            self.assertEqual(standing_line(standing), line)

    def test_standings_of_books(self):
        for seed in range(5):
            for mode, lot, row, place, left, silence in Plain(parts_by_chance(seed, rows=2)).standings():
                expected = " ".join([mode, ",".join(lot) or "-", row or "-", str(place), str(left), str(silence)])
                self.assertEqual(standing_line((mode, lot, row, place, left, silence)), expected)


class TableTest(unittest.TestCase):
    def test_no_ticks(self):
        self.assertEqual(history_table(made(PLAIN), []), "")
        self.assertEqual(history_table(made(BUSY, modes=[("m", ("a", "b"), ()), ("n", (), ())]), []), "")

    def test_lines(self):
        inputs = [((), ("do", "z")), ((), ("run", "r")), ((), ("do", "w")), ((), None), ((), ("do", "z")),
                  (("s", "t"), None), (("t",), ("do", "x")), ((), ("stop",)), ((), None), ((), None), ((), None),
                  (("s",), ("run", "r")), ((), ("do", "u"))]
        self.assertEqual(history_table(made(BUSY), inputs).split("\n"), [
            "1: - do z -> m - refused z",
            "2: - run r -> m -",
            "3: - do w -> m a,b done w,x BARRED",
            "4: - wait -> m a,b",
            "5: - do z -> m a,b done w refused z BARRED",
            "6: s,t wait -> m - BARRED",
            "7: t do x -> n a,b refused x BARRED",
            "8: - stop -> n a,b",
            "9: - wait -> n a,b",
            "10: - wait -> n a,b",
            "11: - wait -> m a,b BARRED",
            "12: s run r -> m -",
            "13: - do u -> n - done u",
        ])

    def test_a_single_tick(self):
        self.assertEqual(history_table(made(SMALLEST), [((), None)]), "1: - wait -> m -")
        self.assertEqual(history_table(made(PLAIN), [(("cold", "low"), ("do", "go"))]),
                         "1: cold,low do go -> work cam,radio done go BARRED")

    def test_histories_of_books(self):
        words = {}
        for seed in range(80):
            parts = parts_by_chance(seed, barred=3, rows=2)
            plain, chance = Plain(parts), random.Random(seed)
            inputs = [chance.choice(plain.inputs()) for _ in range(12)]
            expected = table_by_hand(plain, inputs)
            self.assertEqual(history_table(made(parts), inputs), expected)
            for word in ("done", "refused", "BARRED"):
                words[word] = words.get(word, 0) + expected.count(word)
        self.assertGreater(min(words.values()), 50)

    def test_wrong_inputs(self):
        for bad in (((), ("do", "hop")), (("hot",), None), (("low", "cold"), None), ((), ())):
            for inputs in ([bad], [((), None), bad], [bad, ((), None)]):
                with self.assertRaises(InvalidInput):
                    history_table(made(PLAIN), inputs)


if __name__ == "__main__":
    unittest.main()
