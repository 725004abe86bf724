"""Point [61]: sessions."""

import random
import unittest

from farword.closed import reached, verdict
from farword.notation import format_book, format_input
from farword.report import history_table, standing_line
from farword.rests import rest_bound
from farword.session import Session
from farword.steps import first_standing, tick
from tests.plain import Plain, parts_by_chance
from tests.samples import ONE_TOO_MANY, PLAIN, PLAIN_TEXT, SMALLEST, made

NO_FORM = [
    "", " ", "  ", "hop", "modes", "Mode nap - -", "MODE nap - -", "holds a", "holds cam,heat,radio",
    "barred cam,radio",
    "mode", "mode nap", "mode nap -", "mode nap - - -", "mode nap - - ", " mode nap - -", "mode  nap - -",
    "mode nap  - -", "mode nap -  -", "command", "command hop safe - -", "command hop safe - - - -", "command hop",
    "command hop safe - - - ", "command  hop safe - - -", "alarm", "alarm hot - -", "alarm hot - - - -", "alarm hot",
    "row", "row r", "row r ", "row r go", "row r 2", "row r 2:go:", "row r 2:go:off", "row r 2:go 3", "row r 2:go ",
    "row r 2:go  3:go", "row r :go", "row r :", "row r 02:go", "row r 00:go", "row r 100:go", "row r -1:go",
    "row r x:go", "row r +2:go", "row r 2:go x:go", "row r 2 :go", "row 2:go",
    "drop", "drop mode", "drop nap", "drop mode work work", "drop hold cam", "drop barred cam,heat", "drop modes work",
    "drop quiet 4", "drop  mode", "drop mode ", "drop Mode work", "drop holds cam",
    "bar", "bar ", "bar cam radio", "bar cam,radio ", "unbar", "unbar cam heat", "unbar  cam,heat", "bars cam,radio",
    "quiet", "quiet ", "quiet x", "quiet 4 4", "quiet 04", "quiet 00", "quiet 100", "quiet -1", "quiet +1", "quiet --",
    "quiet none", "quiet  4", "quiet 4 ", "undo ", " undo", "undo 1", "undo undo", "redo redo", "Undo", "redo 2",
    "tick", "tick -", "tick wait", "tick ", "tick - ", "tick  wait", "tick  - wait", "tick - wait ", "tick -  wait",
    "tick - do  go", "Tick - wait", "stand ", "stand 1", "stand -", "Stand", "verdict 1", "verdict all", "rest 1",
    "rest -", "rests", "book 1", "book ", "books", "play", "answer rest", "wait", "do go", "stop", "- wait",
]

WRONG_BOOKS = [
    "mode Nap - -", "mode nap,work - -", "mode - - -", "mode nap cam cam", "mode nap heat,cam -", "mode nap hot -",
    "mode nap cam, -", "mode nap ,cam -", "mode nap , -", "mode nap cam,,heat -", "mode nap - radio,cam",
    "mode nap cam,cam -", "mode abcdefghij123 - -", "mode nap! - -", "mode nap -- -",
    "command hop nap - - -", "command hop work,safe - - -", "command hop - hot - -", "command hop - - - nap",
    "command hop - cam cam -", "command - - - - -", "command Hop - - - -", "command hop - - - Safe",
    "alarm hot - - nap", "alarm hot hot - -", "alarm hot cam cam -", "alarm - - - -", "alarm hot - - SAFE",
    "row r 0:go", "row r 10:go", "row r 99:go", "row r 2:", "row r 2:hop", "row r 2:Go", "row - 2:go", "row R 2:go",
    "row r 1:go 1:go 1:go 1:go 1:go", "row r 2:go 0:go", "row r 2:go 2:", "row r 2:plan",
    "bar -", "bar cam", "bar heat,cam", "bar cam,heat", "bar cam,hot", "bar cam,cam", "bar ,", "bar cam,",
    "bar Cam,Heat",
    "quiet 0", "quiet 31", "quiet 99", "mode work cam,heat,radio,heat -",
]

UNKNOWN = {
    "drop mode nap": "nap", "drop command safe": "safe", "drop alarm go": "go", "drop row hop": "hop",
    "drop mode -": "-",
    "drop mode cam,heat": "cam,heat", "drop row 2:go": "2:go", "unbar -": "", "unbar cam": "cam",
    "unbar cam,radio": "cam,radio", "unbar heat,cam": "heat,cam", "unbar cam,": "cam,", "unbar ,": ",",
    "unbar hot,ice": "hot,ice", "drop command Go": "Go",
}

WRONG_INPUTS = ["tick hot wait", "tick - do hop", "tick - do", "tick - run go", "tick low,cold wait",
                "tick cold,cold wait",
                "tick - go", "tick - wait wait", "tick - stop go", "tick wait -", "tick cold, wait", "tick -- wait",
                "tick - do go go", "tick - do go off warm", "tick - Wait", "tick do go", "tick - do go -",
                "tick , wait",
                "tick - run", "tick stop stop", "tick low do wait"]


def session_amid():
    """A session with a change that can be undone and one that can be restored, which is not at its first standing."""
    session = Session(made(PLAIN))
    for line in ("quiet 5", "quiet 6", "undo", "tick cold do go"):
        session.obey(line)
    return session


def stand(session):
    """What a session tells of itself."""
    return (session.obey("book"), session.obey("stand"))


class FormsTest(unittest.TestCase):
    def test_lines_of_no_form(self):
        for line in NO_FORM:
            with self.subTest(line=line):
                self.check(line, "error command")

    def check(self, line, reply):
        session = session_amid()
        before = stand(session)
        self.assertEqual(session.obey(line), reply)
        self.assertEqual(stand(session), before)
        # What can be restored and undone is not touched, either.
        self.assertEqual([session.obey(word) for word in ("redo", "redo", "undo", "undo", "undo")],
                         ["ok", "error redo", "ok", "ok", "error undo"])

    def test_wrong_books(self):
        for line in WRONG_BOOKS:
            with self.subTest(line=line):
                self.check(line, "error book")

    def test_unknown_names(self):
        for line, name in UNKNOWN.items():
            with self.subTest(line=line):
                self.check(line, f"error name {name}")

    def test_an_empty_name(self):
        self.assertEqual(Session(made(PLAIN)).obey("unbar -"), "error name ")

    def test_used_names(self):
        for line, name in (("drop mode work", "work"), ("drop mode safe", "safe"), ("drop mode idle", "idle"),
                           ("drop command go", "go"), ("drop command warm", "warm")):
            self.check(line, f"error used {name}")

    def test_the_only_mode(self):
        self.assertEqual(Session(made(SMALLEST)).obey("drop mode m"), "error book")

    def test_wrong_inputs(self):
        for line in WRONG_INPUTS:
            with self.subTest(line=line):
                self.check(line, "error input")

    def test_undo_and_redo_at_the_ends(self):
        session = Session(made(PLAIN))
        self.assertEqual([session.obey(line) for line in ("undo", "redo", "quiet 9", "redo", "undo", "undo", "redo",
                                                          "redo")],
                         ["error undo", "error redo", "ok", "error redo", "ok", "error undo", "ok", "error redo"])

    def test_too_large(self):
        session = Session(made(ONE_TOO_MANY))
        before = stand(session)
        self.assertEqual([session.obey(line) for line in ("verdict", "rest", "verdict")], ["error large"] * 3)
        self.assertEqual(stand(session), before)
        self.assertEqual([session.obey(line) for line in ("drop row t", "verdict")], ["ok", "clean 1679"])


class ChangesTest(unittest.TestCase):
    def check(self, line, book):
        """The line makes the book of the plain one, and its first standing."""
        session = session_amid()
        session.obey("quiet 4")
        session.obey("tick cold do go")
        self.assertEqual(session.obey(line), "ok")
        self.assertEqual(stand(session), (format_book(book), standing_line(first_standing(book))))

    def test_parts(self):
        book = made(PLAIN)
        for line, sort, part in (("mode nap - cam", "mode", ("nap", (), ("cam",))),
                                 ("mode safe cam,heat radio", "mode", ("safe", ("cam", "heat"), ("radio",))),
                                 ("command hop idle,safe cam heat,radio work", "command",
                                  ("hop", ("idle", "safe"), ("cam",), ("heat", "radio"), "work")),
                                 ("command go - - - -", "command", ("go", (), (), (), None)),
                                 ("alarm hot - cam,heat -", "alarm", ("hot", (), ("cam", "heat"), None)),
                                 ("alarm low radio - idle", "alarm", ("low", ("radio",), (), "idle")),
                                 ("row r 1:go", "row", ("r", ((1, "go"),))),
                                 ("row plan 9:off 1:go 2:go 3:warm", "row",
                                  ("plan", ((9, "off"), (1, "go"), (2, "go"), (3, "warm")))),
                                 ("row tick 9:off", "row", ("tick", ((9, "off"),)))):
            self.check(line, book.with_part(sort, part))

    def test_what_is_dropped(self):
        book = made(PLAIN)
        for sort, name in (("command", "off"), ("alarm", "low"), ("row", "plan"), ("row", "again")):
            self.check(f"drop {sort} {name}", book.without_part(sort, name))
        session = Session(made(PLAIN))
        self.assertEqual([session.obey(line) for line in ("mode nap - -", "drop mode nap")], ["ok", "ok"])
        self.assertEqual(session.obey("book"), PLAIN_TEXT)

    def test_lots_and_quiet(self):
        book = made(PLAIN)
        self.check("bar cam,radio", book.with_barred(("cam", "radio")))
        self.check("bar cam,heat,radio", book.with_barred(("cam", "heat", "radio")))
        self.check("unbar cam,heat", book.without_barred(("cam", "heat")))
        for quiet in (1, 9, 10, 30):
            self.check(f"quiet {quiet}", book.with_quiet(quiet))
        self.check("quiet -", book.with_quiet(None))

    def test_undo_and_redo(self):
        session = Session(made(PLAIN))
        books = [session.obey("book")]
        for line in ("quiet 1", "drop row plan", "mode safe - radio", "bar cam,radio"):
            self.assertEqual(session.obey(line), "ok")
            books.append(session.obey("book"))
        for word, expected in (("undo", books[:-1][::-1]), ("redo", books[1:])):
            for book in expected:
                session.obey("tick - do go")
                self.assertEqual(session.obey(word), "ok")
                # The safe mode is in the second line of the book.
                name, on = book.split("\n")[1].split(" ")[1:3]
                self.assertEqual(stand(session), (book, f"{name} {on} - 0 0 0"))

    def test_the_lines_of_a_book(self):
        session = Session(made(SMALLEST, holds=["cam", "heat", "radio"]))
        for line in PLAIN_TEXT.split("\n")[1:]:
            self.assertEqual(session.obey(line.replace("barred", "bar")), "ok")
        self.assertEqual(session.obey("drop mode m"), "ok")
        self.assertEqual(session.obey("book"), PLAIN_TEXT)


class QuestionsTest(unittest.TestCase):
    def test_at_first(self):
        for parts in (SMALLEST, PLAIN):
            self.assertEqual(stand(Session(made(parts))), (format_book(made(parts)),
                                                           standing_line(first_standing(made(parts)))))

    def test_verdicts_and_rest(self):
        words = {}
        for seed in range(40):
            book = made(parts_by_chance(seed, barred=2))
            word, told = verdict(book)
            many = len(reached(book)) if word == "clean" else len(told)
            session = Session(book)
            self.assertEqual(session.obey("verdict"), f"{word} {many}")
            self.assertEqual(session.obey("rest"), str(rest_bound(book)[0]))
            words[word] = words.get(word, 0) + 1
        self.assertGreater(min(words.values()), 5)

    def test_a_barred_first_standing(self):
        session = Session(made(SMALLEST, holds=["a", "b"], modes=[("m", ("a", "b"), ())], barred=[("a", "b")]))
        self.assertEqual(session.obey("verdict"), "barred 0")

    def test_questions_change_nothing(self):
        session = session_amid()
        before = stand(session)
        for line in ("verdict", "rest", "stand", "book", "verdict"):
            session.obey(line)
        self.assertEqual(stand(session), before)
        self.assertEqual(session.obey("redo"), "ok")

    def test_questions_behind_changes(self):
        session = Session(made(PLAIN))
        self.assertEqual(session.obey("rest"), "4")
        for line, answer in (("quiet 2", 2), ("undo", 4), ("redo", 2), ("quiet -", 0)):
            session.obey(line)
            book = made(PLAIN).with_quiet(None if line == "quiet -" else answer)
            self.assertEqual(session.obey("rest"), str(rest_bound(book)[0]))


class TickTest(unittest.TestCase):
    def test_histories(self):
        for seed in range(30):
            parts = parts_by_chance(seed, barred=2, rows=2)
            book, plain, chance = made(parts), Plain(parts), random.Random(seed)
            session, inputs = Session(book), []
            for _ in range(10):
                inputs.append(chance.choice(plain.inputs()))
                line = history_table(book, inputs).split("\n")[-1]
                self.assertEqual(session.obey(f"tick {format_input(inputs[-1])}"), line.split(" -> ")[1])
                behind = plain.behind(plain.first(), inputs)
                self.assertEqual(session.obey("stand"), standing_line(behind))

    def test_a_tick_behind_a_change(self):
        session = Session(made(PLAIN))
        self.assertEqual([session.obey(line) for line in ("tick - do go", "stand", "quiet 9", "stand", "tick - wait",
                                                          "stand", "undo", "stand", "tick cold run again", "stand")],
                         ["work cam,radio done go", "work cam,radio - 0 0 0", "ok", "safe radio - 0 0 0", "safe radio",
                          "safe radio - 0 0 1", "ok", "safe radio - 0 0 0", "safe heat,radio BARRED",
                          "safe heat,radio again 0 9 0"])

    def test_the_book_of_a_tick(self):
        session, book = Session(made(PLAIN)), made(PLAIN)
        session.obey("alarm hot radio - idle")
        book = book.with_part("alarm", ("hot", ("radio",), (), "idle"))
        step = tick(book, first_standing(book), ("hot",), None)
        self.assertEqual(session.obey("tick hot wait"), "idle radio")
        self.assertEqual(session.obey("stand"), standing_line(step.standing))


class PlayTest(unittest.TestCase):
    def test_replies(self):
        session = Session(made(SMALLEST))
        self.assertEqual(session.play("stand\nquiet 3\n\ntick - wait\nstand\nverdict\nrest\nundo\nundo\nbook"),
                         ["m - - 0 0 0", "ok", "error command", "m -", "m - - 0 0 1", "clean 3", "0", "ok",
                          "error undo", "holds a\nmode m - -"])

    def test_the_empty_string(self):
        self.assertEqual(Session(made(SMALLEST)).play(""), ["error command"])
        self.assertEqual(Session(made(SMALLEST)).play("\n"), ["error command"] * 2)

    def test_as_line_by_line(self):
        lines = [*NO_FORM, *WRONG_BOOKS, *UNKNOWN, *WRONG_INPUTS, "quiet 7", "tick cold do go", "stand", "undo",
                 "verdict"]
        random.Random(1).shuffle(lines)
        one, other = Session(made(PLAIN)), Session(made(PLAIN))
        self.assertEqual(one.play("\n".join(lines)), [other.obey(line) for line in lines])


if __name__ == "__main__":
    unittest.main()
