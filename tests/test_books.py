"""Points [3], [4], [6], [7] and [8]: names, lots and books."""

import copy
import unittest

from farword.books import is_lot, is_name
from farword.errors import InvalidBook, NameInUse, UnknownName
from tests.samples import COMMANDS, FULL, HOLDS, MODES, PARTS, PLAIN, SMALLEST, made, parts_of

SIGNS = "abcdefghijklmnopqrstuvwxyz0123456789"


class NamesTest(unittest.TestCase):
    def test_lengths_of_names(self):
        self.assertIs(is_name(""), False)
        for length in range(1, 13):
            self.assertIs(is_name("a" * length), True)
        for length in (13, 14, 50):
            self.assertIs(is_name("a" * length), False)

    def test_signs_of_names(self):
        for code in [10, *range(32, 127)]:
            sign = chr(code)
            with self.subTest(sign=sign):
                for text in (sign, f"a{sign}", f"{sign}a", f"a{sign}b"):
                    self.assertIs(is_name(text), sign in SIGNS)

    def test_each_of_the_signs_may_stand(self):
        self.assertEqual([is_name(SIGNS[at:at + 12]) for at in range(0, 36, 12)], [True, True, True])

    def test_lots(self):
        for names in [(), ("a",), ("a", "b"), ("0", "9", "a", "a0", "aa", "b"), ("a", "ab", "b"), ("10", "9")]:
            with self.subTest(names=names):
                self.assertIs(is_lot(names), True)

    def test_what_is_no_lot(self):
        for names in [("b", "a"), ("a", "a"), ("a", "b", "b"), ("a", "c", "b"), ("",), ("A",), ("a", "b c"),
                      ("a", "b" * 13), ("-",), ("9", "10"), ("", "a")]:
            with self.subTest(names=names):
                self.assertIs(is_lot(names), False)


class PartsTest(unittest.TestCase):
    def test_the_smallest_book(self):
        book = made(SMALLEST)
        self.assertEqual(parts_of(book), SMALLEST)
        self.assertEqual(book.safe, "m")

    def test_a_book_at_every_upper_bound(self):
        book = made(FULL)
        self.assertEqual(parts_of(book), {**FULL, "barred": sorted(FULL["barred"])})
        self.assertEqual(book.safe, MODES[0])

    def test_orders_that_are_kept_and_orders_that_ascend(self):
        book = made(PLAIN)
        self.assertEqual(book.holds, ["cam", "heat", "radio"])
        self.assertEqual(book.barred, [("cam", "heat"), ("heat", "radio")])
        self.assertEqual([part[0] for part in book.commands], ["go", "off", "warm"])
        self.assertEqual(sorted(book.commands), sorted(PLAIN["commands"]))
        self.assertEqual(book.modes, PLAIN["modes"])
        self.assertEqual(book.alarms, PLAIN["alarms"])
        self.assertEqual(book.rows, PLAIN["rows"])
        self.assertEqual(book.quiet, 4)
        self.assertEqual(book.safe, "safe")

    def test_barred_lots_ascend_as_tuples(self):
        lots = [("b", "c"), ("a", "c"), ("a", "b", "c"), ("a", "b")]
        book = made(SMALLEST, holds=["a", "b", "c"], barred=lots)
        self.assertEqual(book.barred, [("a", "b"), ("a", "b", "c"), ("a", "c"), ("b", "c")])

    def test_a_name_may_stand_in_several_sorts(self):
        book = made(SMALLEST, modes=[("a", ("a",), ())], commands=[("a", ("a",), ("a",), (), "a")],
                    alarms=[("a", (), ("a",), "a")], rows=[("a", ((1, "a"),))])
        self.assertEqual(book.row_named("a"), ("a", ((1, "a"),)))

    def test_one_command_may_stand_in_a_row_several_times(self):
        rows = [("r", ((1, "go"), (1, "go"), (9, "go")))]
        self.assertEqual(made(PLAIN, rows=rows).rows, rows)

    def test_all_numbers_that_quiet_and_ticks_may_be(self):
        self.assertEqual([made(SMALLEST, quiet=quiet).quiet for quiet in range(1, 31)], list(range(1, 31)))
        for ticks in range(1, 10):
            self.assertEqual(made(PLAIN, rows=[("r", ((ticks, "go"),))]).rows, [("r", ((ticks, "go"),))])


# For each rule a book that breaks just this one: what differs from the plain book.
BROKEN = {
    "no hold": {"holds": [], "modes": [("m", (), ())], "barred": [], "commands": [], "alarms": [], "rows": []},
    "seven holds": {"holds": ["cam", "heat", "radio", "w", "x", "y", "z"]},
    "a hold twice": {"holds": ["heat", "cam", "radio", "cam"]},
    "a hold that is no name": {"holds": ["heat", "cam", "radio", "Cam"]},
    "a hold that is the empty string": {"holds": ["heat", "cam", "radio", ""]},
    "no mode": {"modes": [], "commands": [], "alarms": [], "rows": []},
    "six modes": {"modes": [*PLAIN["modes"], ("x", (), ()), ("y", (), ()), ("z", (), ())]},
    "a mode twice": {"modes": [*PLAIN["modes"], ("work", (), ())]},
    "a mode that is no name": {"modes": [*PLAIN["modes"], ("w-x", (), ())]},
    "a mode with an unknown hold on": {"modes": [*PLAIN["modes"], ("x", ("tank",), ())]},
    "a mode with an unknown hold off": {"modes": [*PLAIN["modes"], ("x", (), ("tank",))]},
    "a mode with an on that descends": {"modes": [*PLAIN["modes"], ("x", ("heat", "cam"), ())]},
    "a mode with an off that descends": {"modes": [*PLAIN["modes"], ("x", (), ("heat", "cam"))]},
    "a mode with a hold twice in one lot": {"modes": [*PLAIN["modes"], ("x", ("cam", "cam"), ())]},
    "a mode with a hold in both lots": {"modes": [*PLAIN["modes"], ("x", ("cam", "heat"), ("heat", "radio"))]},
    "a mode with two parts": {"modes": [*PLAIN["modes"], ("x", ())]},
    "a mode with four parts": {"modes": [*PLAIN["modes"], ("x", (), (), ())]},
    "a mode without parts": {"modes": [*PLAIN["modes"], ()]},
    "a barred lot twice": {"barred": [("cam", "heat"), ("heat", "radio"), ("cam", "heat")]},
    "a barred lot of one hold": {"barred": [("cam",)]},
    "an empty barred lot": {"barred": [()]},
    "a barred lot that descends": {"barred": [("heat", "cam")]},
    "a barred lot with a hold twice": {"barred": [("cam", "cam")]},
    "a barred lot with an unknown hold": {"barred": [("cam", "tank")]},
    "nine commands": {"commands": [*PLAIN["commands"], *[(f"x{k}", (), (), (), None) for k in range(6)]]},
    "a command twice": {"commands": [*PLAIN["commands"], ("go", (), (), (), None)]},
    "a command that is no name": {"commands": [*PLAIN["commands"], ("go!", (), (), (), None)]},
    "a command with a long name": {"commands": [*PLAIN["commands"], ("abcdefghijklm", (), (), (), None)]},
    "a command with an unknown mode": {"commands": [*PLAIN["commands"], ("x", ("nap",), (), (), None)]},
    "a command with modes that descend": {"commands": [*PLAIN["commands"], ("x", ("work", "safe"), (), (), None)]},
    "a command with a mode twice": {"commands": [*PLAIN["commands"], ("x", ("safe", "safe"), (), (), None)]},
    "a command with an unknown hold on": {"commands": [*PLAIN["commands"], ("x", (), ("tank",), (), None)]},
    "a command with an unknown hold off": {"commands": [*PLAIN["commands"], ("x", (), (), ("tank",), None)]},
    "a command with an on that descends": {"commands": [*PLAIN["commands"], ("x", (), ("heat", "cam"), (), None)]},
    "a command with an off that descends": {"commands": [*PLAIN["commands"], ("x", (), (), ("heat", "cam"), None)]},
    "a command with a hold in both lots": {"commands": [*PLAIN["commands"], ("x", (), ("cam",), ("cam",), None)]},
    "a command to an unknown mode": {"commands": [*PLAIN["commands"], ("x", (), (), (), "nap")]},
    "a command to the empty string": {"commands": [*PLAIN["commands"], ("x", (), (), (), "")]},
    "a command with four parts": {"commands": [*PLAIN["commands"], ("x", (), (), ())]},
    "a command with six parts": {"commands": [*PLAIN["commands"], ("x", (), (), (), None, None)]},
    "a command without parts": {"commands": [*PLAIN["commands"], ()]},
    "five alarms": {"alarms": [*PLAIN["alarms"], *[(f"x{k}", (), (), None) for k in range(3)]]},
    "an alarm twice": {"alarms": [*PLAIN["alarms"], ("cold", (), (), None)]},
    "an alarm that is no name": {"alarms": [*PLAIN["alarms"], ("", (), (), None)]},
    "an alarm with an unknown hold on": {"alarms": [*PLAIN["alarms"], ("x", ("tank",), (), None)]},
    "an alarm with an unknown hold off": {"alarms": [*PLAIN["alarms"], ("x", (), ("tank",), None)]},
    "an alarm with an on that descends": {"alarms": [*PLAIN["alarms"], ("x", ("heat", "cam"), (), None)]},
    "an alarm with an off that descends": {"alarms": [*PLAIN["alarms"], ("x", (), ("heat", "cam"), None)]},
    "an alarm with a hold in both lots": {"alarms": [*PLAIN["alarms"], ("x", ("cam",), ("cam",), None)]},
    "an alarm to an unknown mode": {"alarms": [*PLAIN["alarms"], ("x", (), (), "nap")]},
    "an alarm with three parts": {"alarms": [*PLAIN["alarms"], ("x", (), ())]},
    "an alarm with five parts": {"alarms": [*PLAIN["alarms"], ("x", (), (), None, None)]},
    "an alarm without parts": {"alarms": [()]},
    "four rows": {"rows": [*PLAIN["rows"], ("x", ((1, "go"),)), ("y", ((1, "go"),))]},
    "a row twice": {"rows": [*PLAIN["rows"], ("plan", ((1, "go"),))]},
    "a row that is no name": {"rows": [*PLAIN["rows"], ("a plan", ((1, "go"),))]},
    "a row without steps": {"rows": [*PLAIN["rows"], ("x", ())]},
    "a row of five steps": {"rows": [*PLAIN["rows"], ("x", ((1, "go"),) * 5)]},
    "a row of an unknown command": {"rows": [*PLAIN["rows"], ("x", ((1, "go"), (1, "hop")))]},
    "a row of no ticks": {"rows": [*PLAIN["rows"], ("x", ((0, "go"),))]},
    "a row of ticks below zero": {"rows": [*PLAIN["rows"], ("x", ((-1, "go"),))]},
    "a row of ten ticks": {"rows": [*PLAIN["rows"], ("x", ((1, "go"), (10, "go")))]},
    "a row with a step of one part": {"rows": [*PLAIN["rows"], ("x", ((1, "go"), (1,)))]},
    "a row with a step of three parts": {"rows": [*PLAIN["rows"], ("x", ((1, "go", "go"),))]},
    "a row with an empty step": {"rows": [*PLAIN["rows"], ("x", ((),))]},
    "a row of one part": {"rows": [*PLAIN["rows"], ("x",)]},
    "a row of three parts": {"rows": [*PLAIN["rows"], ("x", ((1, "go"),), ())]},
    "a row without parts": {"rows": [()]},
    "quiet of no ticks": {"quiet": 0},
    "quiet below zero": {"quiet": -1},
    "quiet of 31 ticks": {"quiet": 31},
}


class RulesTest(unittest.TestCase):
    def test_a_book_that_breaks_one_rule(self):
        for why, changes in BROKEN.items():
            with self.subTest(why=why):
                with self.assertRaises(InvalidBook):
                    made(PLAIN, **changes)

    def test_the_broken_books_are_near_to_books(self):
        made(PLAIN, holds=["cam", "heat", "radio", "x", "y", "z"])
        made(PLAIN, modes=[*PLAIN["modes"], ("x", ("cam", "heat"), ("radio",)), ("y", (), ())])
        made(PLAIN, commands=[*PLAIN["commands"], *[(f"x{k}", (), (), (), None) for k in range(5)]])
        made(PLAIN, alarms=[*PLAIN["alarms"], *[(f"x{k}", (), (), None) for k in range(2)]])
        made(PLAIN, rows=[*PLAIN["rows"], ("x", ((1, "go"),) * 4)])
        made(PLAIN, barred=[("cam", "radio"), ("cam", "heat", "radio")])

    def test_nine_barred_lots(self):
        holds = ["a", "b", "c", "d", "e"]
        lots = [("a", name) for name in holds[1:]] + [("b", name) for name in holds[2:]] + [("c", "d")]
        self.assertEqual(len(made(SMALLEST, holds=holds, barred=lots).barred), 8)
        with self.assertRaises(InvalidBook):
            made(SMALLEST, holds=holds, barred=[*lots, ("c", "e")])


class NewListsTest(unittest.TestCase):
    def test_a_book_copies_its_lists_and_leaves_them(self):
        given = copy.deepcopy(PLAIN)
        book = made(given)
        self.assertEqual(given, PLAIN)
        before = parts_of(book)
        for name in PARTS[:-1]:
            given[name].clear()
        self.assertEqual(parts_of(book), before)
        self.assertEqual(book.safe, "safe")

    def test_each_list_that_is_returned_is_new(self):
        book = made(PLAIN)
        before = copy.deepcopy(parts_of(book))
        for name in PARTS[:-1]:
            with self.subTest(name=name):
                self.assertIsNot(getattr(book, name), getattr(book, name))
                getattr(book, name).reverse()
                getattr(book, name).clear()
                self.assertEqual(parts_of(book), before)
        self.assertEqual(book.mode_named("work"), ("work", ("cam",), ("heat",)))
        self.assertIs(book.same_as(made(PLAIN)), True)

    def test_books_do_not_change(self):
        book = made(PLAIN)
        before = parts_of(book)
        book.with_part("mode", ("new", (), ()))
        book.with_part("command", ("go", (), (), (), None))
        book.without_part("alarm", "cold")
        book.with_barred(("cam", "radio"))
        book.without_barred(("cam", "heat"))
        book.with_quiet(None)
        self.assertEqual(parts_of(book), before)


class NamedTest(unittest.TestCase):
    def test_each_part_by_its_name(self):
        book = made(PLAIN)
        for part in PLAIN["modes"]:
            self.assertEqual(book.mode_named(part[0]), part)
        for part in PLAIN["commands"]:
            self.assertEqual(book.command_named(part[0]), part)
        for part in PLAIN["alarms"]:
            self.assertEqual(book.alarm_named(part[0]), part)
        for part in PLAIN["rows"]:
            self.assertEqual(book.row_named(part[0]), part)

    def test_unknown_names(self):
        book = made(PLAIN)
        for ask in (book.mode_named, book.command_named, book.alarm_named, book.row_named):
            for name in ("nap", "", "cam", "Safe"):
                with self.subTest(ask=ask, name=name):
                    with self.assertRaises(UnknownName) as caught:
                        ask(name)
                    self.assertEqual(caught.exception.name, name)

    def test_a_name_of_another_sort_is_unknown(self):
        book = made(PLAIN)
        for ask, name in ((book.mode_named, "go"), (book.command_named, "safe"), (book.alarm_named, "plan"),
                          (book.row_named, "low")):
            with self.assertRaises(UnknownName):
                ask(name)


class WithPartTest(unittest.TestCase):
    def setUp(self):
        self.book = made(PLAIN)
        self.before = parts_of(self.book)

    def tearDown(self):
        self.assertEqual(parts_of(self.book), self.before)

    def check(self, book, **changes):
        self.assertEqual(parts_of(book), {**self.before, **changes})

    def test_a_new_part_comes_behind_those_of_its_sort(self):
        self.check(self.book.with_part("mode", ("a", ("cam",), ())), modes=[*self.before["modes"], ("a", ("cam",), ())])
        alarm = ("a", (), (), "idle")
        self.check(self.book.with_part("alarm", alarm), alarms=[*self.before["alarms"], alarm])
        row = ("a", ((3, "off"),))
        self.check(self.book.with_part("row", row), rows=[*self.before["rows"], row])

    def test_commands_stay_ascending(self):
        part = ("hop", ("work",), (), (), None)
        go, off, warm = self.before["commands"]
        self.check(self.book.with_part("command", part), commands=[go, part, off, warm])

    def test_a_part_with_a_known_name_comes_into_its_place(self):
        safe, work, idle = self.before["modes"]
        self.check(self.book.with_part("mode", ("safe", (), ())), modes=[("safe", (), ()), work, idle])
        self.check(self.book.with_part("mode", ("work", (), ())), modes=[safe, ("work", (), ()), idle])
        low, cold = self.before["alarms"]
        self.check(self.book.with_part("alarm", ("low", (), (), None)), alarms=[("low", (), (), None), cold])
        plan, again = self.before["rows"]
        self.check(self.book.with_part("row", ("plan", ((1, "off"),))), rows=[("plan", ((1, "off"),)), again])
        go, off, warm = self.before["commands"]
        part = ("go", (), ("cam",), (), None)
        self.check(self.book.with_part("command", part), commands=[part, off, warm])

    def test_wrong_parts(self):
        for sort, part in (("mode", ("x", ("tank",), ())), ("mode", ("safe",)), ("mode", ("X", (), ())),
                           ("mode", ("x", (), (), ())), ("mode", ("", (), ())),
                           ("command", ("x", ("nap",), (), (), None)), ("command", ("go", (), (), ())),
                           ("command", ("x",)), ("alarm", ("x", (), (), "nap")), ("alarm", ("low", (), (), None, None)),
                           ("row", ("x", ())), ("row", ("plan", ((1, "hop"),))), ("row", ("x",)),
                           ("row", ("x", ((10, "go"),)))):
            with self.subTest(sort=sort, part=part):
                with self.assertRaises(InvalidBook):
                    self.book.with_part(sort, part)

    def test_one_part_too_many(self):
        full = made(FULL)
        for sort, part in (("mode", ("x", (), ())), ("command", ("x", (), (), (), None)),
                           ("alarm", ("x", (), (), None)), ("row", ("x", ((1, COMMANDS[0]),)))):
            with self.assertRaises(InvalidBook):
                full.with_part(sort, part)
        changed = full.with_part("mode", (MODES[4], (), ()))
        self.assertEqual(changed.modes, [*FULL["modes"][:4], (MODES[4], (), ())])


class WithoutPartTest(unittest.TestCase):
    def setUp(self):
        self.book = made(PLAIN)
        self.before = parts_of(self.book)

    def tearDown(self):
        self.assertEqual(parts_of(self.book), self.before)

    def refused(self, kind, book, sort, name):
        with self.subTest(sort=sort, name=name):
            with self.assertRaises(kind) as caught:
                book.without_part(sort, name)
            if kind is not InvalidBook:
                self.assertEqual(caught.exception.name, name)

    def test_parts_that_nothing_needs(self):
        for sort, key, name in (("command", "commands", "off"), ("alarm", "alarms", "low"), ("alarm", "alarms", "cold"),
                                ("row", "rows", "plan"), ("row", "rows", "again")):
            with self.subTest(sort=sort, name=name):
                kept = [part for part in self.before[key] if part[0] != name]
                self.assertEqual(len(kept), len(self.before[key]) - 1)
                self.assertEqual(parts_of(self.book.without_part(sort, name)), {**self.before, key: kept})

    def test_a_mode_that_nothing_needs(self):
        book = made(SMALLEST, modes=[("m", (), ()), ("n", (), ()), ("o", (), ())])
        self.assertEqual(book.without_part("mode", "n").modes, [("m", (), ()), ("o", (), ())])
        self.assertEqual(book.without_part("mode", "m").modes, [("n", (), ()), ("o", (), ())])
        self.assertEqual(book.without_part("mode", "m").safe, "n")

    def test_unknown_names(self):
        for sort in ("mode", "command", "alarm", "row"):
            for name in ("nap", "", "cam"):
                self.refused(UnknownName, self.book, sort, name)
        self.refused(UnknownName, self.book, "row", "go")
        self.refused(UnknownName, self.book, "mode", "plan")

    def test_names_in_use(self):
        modes = [("m", (), ()), ("n", (), ())]
        for changes in ({"commands": [("c", ("n",), (), (), None)]}, {"commands": [("c", (), (), (), "n")]},
                        {"commands": [("c", ("m", "n"), (), (), "m")]}, {"alarms": [("x", (), (), "n")]}):
            book = made(SMALLEST, modes=modes, **changes)
            self.refused(NameInUse, book, "mode", "n")
        for name in ("go", "warm"):
            self.refused(NameInUse, self.book, "command", name)

    def test_a_later_step_and_a_later_part_are_looked_at_too(self):
        commands = [("c", (), (), (), None), ("d", (), (), (), None)]
        book = made(SMALLEST, commands=commands, rows=[("r", ((1, "c"),)), ("s", ((1, "c"), (2, "d")))])
        self.refused(NameInUse, book, "command", "d")
        self.assertEqual(book.without_part("row", "s").without_part("command", "d").commands, commands[:1])
        alarms = [("x", (), (), None), ("y", (), (), "n")]
        book = made(SMALLEST, modes=[("m", (), ()), ("n", (), ())], alarms=alarms)
        self.refused(NameInUse, book, "mode", "n")
        self.assertEqual(book.without_part("alarm", "y").without_part("mode", "n").safe, "m")

    def test_names_of_another_sort_need_nothing(self):
        book = made(SMALLEST, modes=[("m", (), ()), ("go", (), ())], commands=[("go", (), (), (), None)],
                    alarms=[("r", (), (), None)], rows=[("r", ((1, "go"),)), ("m", ((1, "go"),))])
        self.assertEqual(book.without_part("mode", "go").modes, [("m", (), ())])
        self.assertEqual(book.without_part("mode", "m").modes, [("go", (), ())])
        self.assertEqual(book.without_part("alarm", "r").alarms, [])
        self.assertEqual(book.without_part("row", "m").rows, [("r", ((1, "go"),))])

    def test_the_only_mode(self):
        self.refused(InvalidBook, made(SMALLEST), "mode", "m")

    def test_the_only_mode_is_in_use_first(self):
        self.refused(NameInUse, made(SMALLEST, alarms=[("x", (), (), "m")]), "mode", "m")
        self.refused(NameInUse, made(SMALLEST, commands=[("x", ("m",), (), (), None)]), "mode", "m")
        self.refused(UnknownName, made(SMALLEST), "mode", "n")


class WithLotsTest(unittest.TestCase):
    def setUp(self):
        self.book = made(PLAIN)
        self.before = parts_of(self.book)

    def tearDown(self):
        self.assertEqual(parts_of(self.book), self.before)

    def test_a_lot_more(self):
        lots = [("cam", "heat"), ("cam", "radio"), ("heat", "radio")]
        self.assertEqual(parts_of(self.book.with_barred(("cam", "radio"))), {**self.before, "barred": lots})

    def test_lots_that_cannot_be_barred(self):
        for lot in ((), ("cam",), ("heat", "cam"), ("cam", "cam"), ("cam", "tank"), ("cam", "heat")):
            with self.subTest(lot=lot):
                with self.assertRaises(InvalidBook):
                    self.book.with_barred(lot)

    def test_a_ninth_lot(self):
        with self.assertRaises(InvalidBook):
            made(FULL).with_barred((HOLDS[0], HOLDS[2]))

    def test_a_lot_less(self):
        book = self.book.without_barred(("heat", "radio"))
        self.assertEqual(parts_of(book), {**self.before, "barred": [("cam", "heat")]})
        self.assertEqual(book.without_barred(("cam", "heat")).barred, [])

    def test_lots_that_are_not_barred(self):
        for lot, name in (((), ""), (("cam",), "cam"), (("cam", "radio"), "cam,radio"), (("heat", "cam"), "heat,cam"),
                          (("cam", "heat", "radio"), "cam,heat,radio"), (("tank",), "tank")):
            with self.subTest(lot=lot):
                with self.assertRaises(UnknownName) as caught:
                    self.book.without_barred(lot)
                self.assertEqual(caught.exception.name, name)


class WithQuietTest(unittest.TestCase):
    def test_quiet(self):
        book = made(PLAIN)
        for quiet in (None, 1, 4, 30):
            self.assertEqual(parts_of(book.with_quiet(quiet)), {**parts_of(book), "quiet": quiet})
        for quiet in (0, -1, 31):
            with self.assertRaises(InvalidBook):
                book.with_quiet(quiet)
        self.assertEqual(book.quiet, 4)


class SameAsTest(unittest.TestCase):
    def test_books_with_the_same_parts(self):
        for parts in (SMALLEST, PLAIN, FULL):
            self.assertIs(made(parts).same_as(made(parts)), True)
        ordered = made(PLAIN, holds=sorted(PLAIN["holds"]), barred=sorted(PLAIN["barred"]),
                       commands=sorted(PLAIN["commands"], key=lambda part: part[0]))
        self.assertIs(made(PLAIN).same_as(ordered), True)

    def test_books_that_differ_in_one_part(self):
        book = made(PLAIN)
        others = [made(PLAIN, holds=[*PLAIN["holds"], "x"]), book.with_part("mode", ("idle", ("cam",), ())),
                  book.without_barred(("cam", "heat")), book.with_part("command", ("go", (), (), (), "work")),
                  book.with_part("alarm", ("cold", (), (), None)), book.with_part("row", ("again", ((8, "go"),))),
                  book.with_quiet(5), book.with_quiet(None)]
        for other in others:
            self.assertIs(book.same_as(other), False)
            self.assertIs(other.same_as(book), False)

    def test_books_that_differ_in_an_order_that_is_kept(self):
        for name in ("modes", "alarms", "rows"):
            self.assertIs(made(PLAIN).same_as(made(PLAIN, **{name: PLAIN[name][::-1]})), False)


if __name__ == "__main__":
    unittest.main()
