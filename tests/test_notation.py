"""Points [10], [11] and [12]: written forms of books and of inputs."""

import copy
import itertools
import unittest

from farword.errors import InvalidNotation
from farword.notation import format_book, format_inputs, parse_book, parse_inputs, read_number
from tests.samples import FULL, PLAIN, PLAIN_TEXT, SMALLEST, made, parts_of

# The lines of the plain text by their sorts: 1 holds, 2-4 modes, 5-6 barred, 7-9 commands, 10-11 alarms, 12-13 rows.
LINES = PLAIN_TEXT.split("\n")


def text_with(at, line):
    """The plain text with another line at this number."""
    return "\n".join([*LINES[:at - 1], line, *LINES[at:]])


def text_plus(at, line):
    """The plain text with one line more, which gets this number."""
    return "\n".join([*LINES[:at - 1], line, *LINES[at - 1:]])


class FormatBookTest(unittest.TestCase):
    def test_the_plain_book(self):
        self.assertEqual(format_book(made(PLAIN)), PLAIN_TEXT)

    def test_the_smallest_book(self):
        self.assertEqual(format_book(made(SMALLEST)), "holds a\nmode m - -")

    def test_each_sort_alone(self):
        for changes, line in (({"quiet": 1}, "quiet 1"), ({"quiet": 30}, "quiet 30"),
                              ({"commands": [("c", (), (), (), None)]}, "command c - - - -"),
                              ({"commands": [("c", ("m",), ("a",), (), "m")]}, "command c m a - m"),
                              ({"commands": [("c", (), (), ("a",), None)]}, "command c - - a -"),
                              ({"alarms": [("x", ("a",), (), "m")]}, "alarm x a - m"),
                              ({"alarms": [("x", (), ("a",), None)]}, "alarm x - a -")):
            self.assertEqual(format_book(made(SMALLEST, **changes)), f"holds a\nmode m - -\n{line}")


class ParseBookTest(unittest.TestCase):
    def check(self, parts):
        book = made(parts)
        text = format_book(book)
        found = parse_book(text)
        self.assertIs(found.same_as(book), True)
        self.assertEqual(parts_of(found), parts_of(book))
        self.assertEqual(format_book(found), text)

    def test_books_and_back(self):
        for parts in (SMALLEST, PLAIN, FULL):
            self.check(parts)

    def test_all_numbers(self):
        for quiet in range(1, 31):
            self.check({**SMALLEST, "quiet": quiet})
        for ticks in range(1, 10):
            self.check({**PLAIN, "rows": [("r", ((ticks, "go"), (10 - ticks, "off")))]})

    def test_barred_lots_and_commands_in_any_order(self):
        barred = [("cam", "heat"), ("cam", "radio"), ("heat", "radio")]
        whole = made(PLAIN, barred=barred)
        lines = format_book(whole).split("\n")
        for some in itertools.permutations(lines[4:7]):
            for others in itertools.permutations(lines[7:10]):
                text = "\n".join([*lines[:4], *some, *others, *lines[10:]])
                self.assertEqual(parts_of(parse_book(text)), parts_of(whole))

    def test_other_orders_are_kept(self):
        swapped = [*LINES[:2], LINES[3], LINES[2], *LINES[4:9], LINES[10], LINES[9], LINES[12], LINES[11], LINES[13]]
        text = "\n".join(swapped)
        book = parse_book(text)
        self.assertEqual([part[0] for part in book.modes], ["safe", "idle", "work"])
        self.assertEqual([part[0] for part in book.alarms], ["cold", "low"])
        self.assertEqual([part[0] for part in book.rows], ["again", "plan"])
        self.assertEqual(format_book(book), text)

    def test_each_sort_behind_mode_may_be_missing(self):
        for gone in ([4, 5], [6, 7, 8, 11, 12], [9, 10], [11, 12], [13], list(range(4, 14))):
            text = "\n".join([line for at, line in enumerate(LINES) if at not in gone])
            self.assertEqual(format_book(parse_book(text)), text)


class NumbersTest(unittest.TestCase):
    def test_numbers_have_one_or_two_digits(self):
        for number in range(100):
            self.assertEqual(read_number(str(number)), number)

    def test_what_is_no_number(self):
        for word in ("", "00", "01", "09", "100", "000", "-1", "+1", "1 ", " 1", "x", "1x", "x1", "1.", "0x", "-"):
            with self.subTest(word=word):
                self.assertIsNone(read_number(word))


class WrongBooksTest(unittest.TestCase):
    def check(self, text, line):
        with self.subTest(text=text):
            with self.assertRaises(InvalidNotation) as caught:
                parse_book(text)
            self.assertEqual(caught.exception.line, line)

    def test_texts_without_a_line_of_a_mode(self):
        self.check("", 1)
        self.check("holds a", 2)
        self.check("holds a\n", 2)
        self.check("\n", 1)
        self.check("\nholds a", 1)
        self.check("holds a\nquiet 4", 2)
        self.check("holds a,b\nbarred a,b\nmode m - -", 2)
        self.check("holds a\ncommand c - - - -", 2)
        self.check("holds a\nalarm x - - -", 2)
        self.check("holds a\nrow r 1:c", 2)

    def test_texts_without_a_line_of_holds(self):
        self.check("mode m - -", 1)
        self.check("mode m - -\nholds a", 1)
        self.check("quiet 4", 1)
        self.check("barred a,b", 1)
        self.check("row r 1:go", 1)

    def test_newlines_at_the_end_and_between(self):
        self.check(PLAIN_TEXT + "\n", 15)
        self.check(PLAIN_TEXT + "\n\n", 15)
        self.check(PLAIN_TEXT + "\nquiet", 15)
        for at in range(1, 15):
            self.check(text_plus(at, ""), at)
            self.check(text_plus(at, " "), at)

    def test_the_first_of_several_lines_is_told(self):
        self.check("holds a\nmode m b -\nmode", 2)
        self.check("holds a\nmode m - -\nquiet 0\nquiet 0", 3)

    def test_lines_behind_a_later_sort(self):
        sorts = ["holds", "mode", "barred", "command", "alarm", "row", "quiet"]
        fresh = {"holds": "holds x", "mode": "mode x - -", "barred": "barred cam,radio", "command": "command x - - - -",
                 "alarm": "alarm x - - -", "row": "row x 1:go", "quiet": "quiet 5"}
        for at in range(2, 16):
            ahead = sorts.index(LINES[at - 2].split(" ")[0])
            for sort in sorts[:ahead]:
                self.check(text_plus(at, fresh[sort]), at)

    def test_lines_behind_one_of_their_sort(self):
        for at, line in ((2, "mode x - -"), (5, "mode x - -"), (5, "barred cam,radio"), (7, "barred cam,radio"),
                         (7, "command x - - - -"), (10, "command x - - - -"), (12, "alarm x - - -"),
                         (14, "row x 1:go")):
            self.assertIn(line, format_book(parse_book(text_plus(at, line))).split("\n"))

    def test_one_line_of_holds_and_one_of_quiet(self):
        self.check(text_plus(2, "holds x"), 2)
        self.check(text_plus(2, LINES[0]), 2)
        self.check(text_plus(15, "quiet 4"), 15)
        self.check(text_plus(14, "quiet 5"), 15)

    def test_lines_of_another_form(self):
        wrong = {
            1: ["holds", "holds ", "holds  cam,heat,radio", "holds cam,heat,radio ", " holds cam,heat,radio", "holds -",
                "holds cam heat radio", "holds cam,heat,radio,", "holds ,cam", "holds cam,,radio",
                "Holds cam,heat,radio",
                "hold cam", "holds radio,heat,cam", "holds cam,cam", "holds a,b,c,d,e,f,g", "holds -,cam",
                "holds cam;heat"],
            3: ["mode", "mode work", "mode work cam", "mode work cam heat -", "mode  work cam heat",
                "mode work  cam heat",
                "mode work cam  heat", "mode work cam heat ", "mode work cam,heat heat", "mode work heat,cam -",
                "mode work - radio,heat", "mode work x -", "mode work - x", "mode safe - -", "mode Work - -",
                "mode - - -",
                "mode work - ", "modes work - -", "mode abcdefghijklm - -", "mode work -,cam -", "mode work cam,cam -"],
            6: ["barred", "barred ", "barred -", "barred cam", "barred cam,heat", "barred heat,cam", "barred cam radio",
                "barred cam,x", "barred cam,radio ", "barred cam,cam", "barred cam,radio -", "barred ,cam"],
            8: ["command", "command off", "command off - - heat", "command off - - heat safe -", "command go - - - -",
                "command off nap - - -", "command off work,safe - - -", "command off - x - -", "command off - - x -",
                "command off - heat heat -", "command off - - - nap", "command off - - - ", "command Off - - - -",
                "command - - - - -", "command off - - - safe,work", "command off safe,safe - - -",
                "command off - - heat  -"],
            11: ["alarm", "alarm cold", "alarm cold heat -", "alarm cold heat - - -", "alarm low - - -",
                 "alarm cold x - -",
                 "alarm cold - x -", "alarm cold heat heat -", "alarm cold - - nap", "alarm cold - - ", "alarm - - - -",
                 "alarm cold heat,cam - -", "alarm c_ld - - -"],
            13: ["row", "row again", "row again ", "row again go", "row again 1:", "row again :go", "row again 1:hop",
                 "row again 0:go", "row again 10:go", "row again 01:go", "row again 1:go:go", "row again 1:go 1",
                 "row again 1:go  1:go", "row again 1:go ", "row again 1:go,2:go", "row again x:go", "row again -1:go",
                 "row again +1:go", "row again 1:go 1:go 1:go 1:go 1:go", "row plan 1:go", "row - 1:go", "row again -",
                 "row again 1 :go", "row again 1: go", "row again 100:go", "row again 1:-"],
            14: ["quiet", "quiet ", "quiet -", "quiet 0", "quiet 31", "quiet 04", "quiet 00", "quiet 4 ", "quiet 4 4",
                 "quiet  4", "quiet -4", "quiet +4", "quiet four", "quiet 4.", "quiet 100", "quiet 004", "quiet 1_0",
                 "Quiet 4", "quiet 4,5"],
        }
        for at, lines in wrong.items():
            for line in lines:
                self.check(text_with(at, line), at)

    def test_one_line_too_many(self):
        lines = format_book(made(FULL)).split("\n")
        more = {6: "mode x - -", 14: "barred abcdefghijh0,abcdefghijh2", 22: "command x - - - -", 26: "alarm x - - -",
                29: "row x 1:abcdefghijc0", 30: "quiet 30"}
        for behind, line in more.items():
            self.check("\n".join([*lines[:behind], line, *lines[behind:]]), behind + 1)

    def test_a_rule_that_is_broken_with_the_lines_ahead(self):
        self.check("holds a,b\nmode m a b\nmode n a a", 3)
        self.check("holds a,b\nmode m - -\nbarred a,b\nbarred a,b", 4)
        self.check("holds a\nmode m - -\ncommand c - - - -\ncommand c m - - -", 4)
        self.check("holds a\nmode m - -\ncommand c - - - n\nmode n - -", 3)
        self.check("holds a\nmode m - -\nrow r 1:c\ncommand c - - - -", 3)
        self.check("holds a\nmode m - -\nalarm x - - -\nalarm x - - -", 4)


INPUTS = [((), None), (("low",), None), (("cold", "low"), ("do", "go")), ((), ("run", "plan")), (("cold",), ("stop",))]
INPUTS_TEXT = "- wait\nlow wait\ncold,low do go\n- run plan\ncold stop"


class InputsTest(unittest.TestCase):
    def test_written_forms(self):
        self.assertEqual(format_inputs([]), "")
        self.assertEqual(format_inputs(INPUTS), INPUTS_TEXT)
        self.assertEqual(format_inputs(INPUTS[:1]), "- wait")
        self.assertEqual(format_inputs(INPUTS[2:3] * 2), "cold,low do go\ncold,low do go")

    def test_parsing(self):
        self.assertEqual(parse_inputs(made(PLAIN), ""), [])
        self.assertEqual(parse_inputs(made(PLAIN), INPUTS_TEXT), INPUTS)
        self.assertIsNot(parse_inputs(made(PLAIN), ""), parse_inputs(made(PLAIN), ""))

    def test_all_inputs_of_a_book_and_back(self):
        lots = [(), ("cold",), ("low",), ("cold", "low")]
        orders = [None, *[("do", name) for name in ("go", "off", "warm")], ("run", "plan"), ("run", "again"), ("stop",)]
        told = [(lot, order) for lot in lots for order in orders]
        before = copy.deepcopy(told)
        text = format_inputs(told)
        self.assertEqual(told, before)
        self.assertEqual(len(text.split("\n")), 28)
        self.assertEqual(parse_inputs(made(PLAIN), text), told)

    def test_names_that_are_words_of_the_notation(self):
        book = made(SMALLEST, commands=[("wait", (), (), (), None), ("stop", (), (), (), None)],
                    rows=[("do", ((1, "wait"),))], alarms=[("run", (), (), None)])
        told = [(("run",), ("do", "wait")), (("run",), ("do", "stop")), (("run",), ("run", "do")), ((), None)]
        text = "run do wait\nrun do stop\nrun run do\n- wait"
        self.assertEqual(format_inputs(told), text)
        self.assertEqual(parse_inputs(book, text), told)

    def test_lines_that_are_no_inputs(self):
        wrong = ["", "-", "wait", "- ", " wait", "-  wait", "- wait ", " - wait", "- Wait", "- wait wait",
                 "- do", "- do hop",
                 "- do plan", "- do go go", "- do  go", "- do go ", "- run", "- run go", "- run hop",
                 "- stop go", "- stop ",
                 "- go", "low,cold wait", "low,low wait", "hot wait", "cold,hot wait", "cold, wait", ",cold wait",
                 "cold low wait", "-,cold wait", "- - wait", "-wait", "- none", "- do do go", "- None", "Low wait"]
        for line in wrong:
            for ahead, behind in (([], []), (["- wait"], []), ([], ["- wait"]),
                                  (["- wait", "low stop"], ["", "- wait"])):
                with self.subTest(line=line, ahead=ahead):
                    text = "\n".join([*ahead, line, *behind])
                    if text == "":
                        continue
                    with self.assertRaises(InvalidNotation) as caught:
                        parse_inputs(made(PLAIN), text)
                    self.assertEqual(caught.exception.line, len(ahead) + 1)

    def test_a_newline_at_the_end(self):
        for text, line in (("- wait\n", 2), (INPUTS_TEXT + "\n", 6), ("\n", 1), ("\n- wait", 1)):
            with self.assertRaises(InvalidNotation) as caught:
                parse_inputs(made(PLAIN), text)
            self.assertEqual(caught.exception.line, line)


if __name__ == "__main__":
    unittest.main()
