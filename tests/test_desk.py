"""Points [56] to [59]: the desk."""

import copy
import itertools
import random
import unittest
import unittest.mock

import farword.desk
from farword.closed import reached, verdict
from farword.desk import Desk, Trial
from farword.errors import (FarError, InvalidBook, NameInUse, NothingToRedo, NothingToUndo, TooLarge, UnknownName)
from farword.rests import rest_bound
from tests.samples import FULL, ONE_TOO_MANY, PLAIN, SMALLEST, WIDEST, made, parts_of

BARRED = {**SMALLEST, "holds": ["a", "b"], "barred": [("a", "b")], "commands": [("x", ("m",), ("a",), (), None)],
          "alarms": [("y", ("b",), (), None)]}

# Changes of the plain book, and what its functions make of them.
CHANGES = [
    ("put_part", ("mode", ("nap", (), ("heat",))), "with_part"),
    ("put_part", ("mode", ("work", (), ())), "with_part"),
    ("put_part", ("command", ("hop", ("safe",), (), (), None)), "with_part"),
    ("put_part", ("alarm", ("cold", (), (), "idle")), "with_part"),
    ("put_part", ("row", ("plan", ((9, "off"),))), "with_part"),
    ("drop_part", ("command", "off"), "without_part"),
    ("drop_part", ("alarm", "low"), "without_part"),
    ("drop_part", ("row", "again"), "without_part"),
    ("bar", (("cam", "radio"),), "with_barred"),
    ("unbar", (("heat", "radio"),), "without_barred"),
    ("set_quiet", (30,), "with_quiet"),
    ("set_quiet", (None,), "with_quiet"),
    ("set_quiet", (4,), "with_quiet"),
]

# Calls that raise, and what they raise.
WRONG = [
    ("put_part", ("mode", ("Nap", (), ())), InvalidBook, None),
    ("put_part", ("mode", ("nap",)), InvalidBook, None),
    ("put_part", ("command", ("hop", ("nap",), (), (), None)), InvalidBook, None),
    ("put_part", ("alarm", ("hop", ("cam",), ("cam",), None)), InvalidBook, None),
    ("put_part", ("row", ("plan", ())), InvalidBook, None),
    ("drop_part", ("mode", "nap"), UnknownName, "nap"),
    ("drop_part", ("alarm", ""), UnknownName, ""),
    ("drop_part", ("mode", "idle"), NameInUse, "idle"),
    ("drop_part", ("command", "go"), NameInUse, "go"),
    ("bar", (("cam",),), InvalidBook, None),
    ("bar", (("cam", "heat"),), InvalidBook, None),
    ("unbar", (("cam", "radio"),), UnknownName, "cam,radio"),
    ("unbar", ((),), UnknownName, ""),
    ("set_quiet", (0,), InvalidBook, None),
    ("set_quiet", (31,), InvalidBook, None),
]


def stand(desk):
    """The book of a desk, and all that can be undone and restored; the desk is left as it was."""
    books, undone = [parts_of(desk.book_now())], 0
    try:
        while True:
            desk.undo()
            undone += 1
            books.append(parts_of(desk.book_now()))
    except NothingToUndo:
        for _ in range(undone):
            desk.redo()
    restored = 0
    try:
        while True:
            desk.redo()
            restored += 1
            books.append(parts_of(desk.book_now()))
    except NothingToRedo:
        for _ in range(restored):
            desk.undo()
    return books, undone


def desk_amid_changes():
    """A desk with two changes that can be undone and two that can be restored."""
    desk = Desk(made(PLAIN))
    for quiet in (1, 2, 3, 5):
        desk.set_quiet(quiet)
    desk.undo()
    desk.undo()
    return desk


class Trouble(Exception):
    """An error that is none of the program."""


class ChangesTest(unittest.TestCase):
    def test_at_first(self):
        desk = Desk(made(PLAIN))
        self.assertEqual(parts_of(desk.book_now()), parts_of(made(PLAIN)))
        self.assertEqual(desk.found, 0)

    def test_each_change(self):
        for name, told, function in CHANGES:
            with self.subTest(name=name, told=told):
                book = made(PLAIN)
                desk = Desk(book)
                self.assertIsNone(getattr(desk, name)(*told))
                expected = parts_of(getattr(made(PLAIN), function)(*told))
                self.assertEqual(parts_of(desk.book_now()), expected)
                self.assertEqual(parts_of(book), parts_of(made(PLAIN)))
                self.assertIsNone(desk.undo())
                self.assertEqual(parts_of(desk.book_now()), parts_of(book))
                self.assertIsNone(desk.redo())
                self.assertEqual(parts_of(desk.book_now()), expected)

    def test_calls_that_raise(self):
        for name, told, error, value in WRONG:
            desk = desk_amid_changes()
            before = stand(desk)
            with self.subTest(name=name, told=told):
                with self.assertRaises(error) as caught:
                    getattr(desk, name)(*told)
                if value is not None:
                    self.assertEqual(caught.exception.name, value)
                # Nothing that could be restored is discarded.
                self.assertEqual(stand(desk), before)

    def test_the_only_mode(self):
        with self.assertRaises(InvalidBook):
            Desk(made(SMALLEST)).drop_part("mode", "m")


class UndoTest(unittest.TestCase):
    def test_both_ends(self):
        desk = Desk(made(PLAIN))
        for deed, error in ((desk.undo, NothingToUndo), (desk.redo, NothingToRedo)):
            with self.assertRaises(error) as caught:
                deed()
            self.assertIsInstance(caught.exception, FarError)
        desk.set_quiet(9)
        with self.assertRaises(NothingToRedo):
            desk.redo()
        desk.undo()
        with self.assertRaises(NothingToUndo):
            desk.undo()
        self.assertEqual(desk.book_now().quiet, 4)
        desk.redo()
        with self.assertRaises(NothingToRedo):
            desk.redo()
        self.assertEqual(desk.book_now().quiet, 9)

    def test_many_changes(self):
        desk = Desk(made(PLAIN))
        books = [desk.book_now()]
        for quiet in range(1, 31):
            desk.set_quiet(quiet)
            books.append(desk.book_now())
        for book in books[:-1][::-1]:
            desk.undo()
            self.assertIs(desk.book_now().same_as(book), True)
        for book in books[1:]:
            desk.redo()
            self.assertIs(desk.book_now().same_as(book), True)

    def test_a_change_behind_an_undo(self):
        desk = desk_amid_changes()
        desk.set_quiet(7)
        with self.assertRaises(NothingToRedo):
            desk.redo()
        quiets = []
        for _ in range(3):
            quiets.append(desk.book_now().quiet)
            desk.undo()
        self.assertEqual((quiets, desk.book_now().quiet), ([7, 2, 1], 4))

    def test_a_change_to_the_same_book_is_one(self):
        desk = desk_amid_changes()
        desk.set_quiet(2)
        with self.assertRaises(NothingToRedo):
            desk.redo()
        desk.undo()
        self.assertEqual(desk.book_now().quiet, 2)
        desk.undo()
        self.assertEqual(desk.book_now().quiet, 1)

    def test_what_discards_nothing(self):
        desk = desk_amid_changes()
        before = stand(desk)
        for question in ("reached", "barred", "rest"):
            desk.answer(question)
        desk.book_now()
        desk.change_all([])
        with desk.trial():
            pass
        self.assertEqual(stand(desk), before)
        with self.assertRaises(InvalidBook):
            desk.set_quiet(99)
        self.assertEqual(stand(desk), before)

    def test_walks(self):
        for seed in range(30):
            chance, desk = random.Random(seed), Desk(made(PLAIN))
            done, undone = [], []
            for _ in range(60):
                deed = chance.choice(["change", "change", "undo", "redo", "wrong"])
                if deed == "change":
                    done.append(desk.book_now())
                    undone.clear()
                    desk.set_quiet(chance.randint(1, 30))
                elif deed == "wrong":
                    with self.assertRaises(InvalidBook):
                        desk.set_quiet(31)
                else:
                    self.step(desk, deed, *((done, undone) if deed == "undo" else (undone, done)))

    def step(self, desk, deed, rest, other):
        """Undo or redo, with the books that are left for it."""
        if not rest:
            with self.assertRaises(NothingToUndo if deed == "undo" else NothingToRedo):
                getattr(desk, deed)()
            return
        other.append(desk.book_now())
        getattr(desk, deed)()
        self.assertEqual(parts_of(desk.book_now()), parts_of(rest.pop()))


class AnswerTest(unittest.TestCase):
    def test_the_questions(self):
        for parts in (SMALLEST, PLAIN, BARRED, {**PLAIN, "barred": []}, {**WIDEST, "quiet": 3}):
            desk, book = Desk(made(parts)), made(parts)
            word, told = verdict(book)
            self.assertEqual(desk.answer("reached"), len(reached(book)))
            self.assertEqual(desk.answer("barred"), told if word == "barred" else None)
            self.assertEqual(desk.answer("rest"), rest_bound(book)[0])
            self.assertEqual(desk.found, 3)

    def test_a_history_of_no_ticks(self):
        desk = Desk(made(BARRED, modes=[("m", ("a", "b"), ())]))
        self.assertEqual(desk.answer("barred"), [])

    def test_kept_answers(self):
        desk = Desk(made(PLAIN))
        self.assertEqual([desk.answer(question) for question in ("rest", "rest", "barred", "rest", "barred")],
                         [4, 4, desk.answer("barred"), 4, desk.answer("barred")])
        self.assertEqual(desk.found, 2)
        desk.set_quiet(2)
        self.assertEqual((desk.found, desk.answer("rest"), desk.found), (2, 2, 3))
        desk.undo()
        self.assertEqual((desk.answer("rest"), desk.found), (4, 3))
        desk.redo()
        self.assertEqual((desk.answer("rest"), desk.found), (2, 3))

    def test_an_answer_is_found_once(self):
        desk = Desk(made(BARRED))
        for name, question in (("reached", "reached"), ("verdict", "barred"), ("rest_bound", "rest")):
            with unittest.mock.patch(f"farword.desk.{name}", wraps=getattr(farword.desk, name)) as counted:
                for _ in range(3):
                    desk.answer(question)
                    desk.set_quiet(2)
                    desk.answer(question)
                    desk.undo()
                self.assertEqual(counted.call_count, 2)
        self.assertEqual(desk.found, 6)

    def test_another_book_with_the_same_parts(self):
        desk = Desk(made(PLAIN))
        desk.answer("reached")
        desk.set_quiet(7)
        desk.put_part("command", ("aaa", (), (), (), None))
        desk.set_quiet(4)
        desk.drop_part("command", "aaa")
        self.assertEqual((desk.answer("reached"), desk.found), (len(reached(made(PLAIN))), 1))

    def test_another_order_of_modes(self):
        # It makes another book, though with the same answer.
        desk = Desk(made(SMALLEST, modes=[("m", (), ()), ("n", (), ()), ("o", (), ())]))
        desk.answer("reached")
        desk.drop_part("mode", "n")
        desk.put_part("mode", ("n", (), ()))
        self.assertEqual((desk.answer("reached"), desk.found), (1, 2))

    def test_books_with_one_part_changed(self):
        desk = Desk(made(PLAIN))
        desk.answer("rest")
        for name, told, _ in CHANGES[:-1]:
            getattr(desk, name)(*told)
            before = desk.found
            self.assertEqual(desk.answer("rest"), rest_bound(desk.book_now())[0])
            self.assertEqual(desk.found, before + 1)
            desk.undo()

    def test_too_large(self):
        desk = Desk(made(ONE_TOO_MANY))
        for question in ("reached", "barred", "rest", "rest"):
            with self.assertRaises(TooLarge):
                desk.answer(question)
        self.assertEqual(desk.found, 0)
        desk.drop_part("row", "t")
        self.assertEqual(desk.answer("rest"), rest_bound(desk.book_now())[0])
        self.assertEqual(desk.found, 1)
        desk.undo()
        with self.assertRaises(TooLarge):
            desk.answer("rest")
        self.assertEqual(desk.found, 1)

    def test_told_histories_are_new(self):
        desk = Desk(made(BARRED))
        expected = verdict(made(BARRED))[1]
        self.assertEqual(len(expected), 1)
        for _ in range(3):
            told = desk.answer("barred")
            self.assertEqual(told, expected)
            told.clear()
        self.assertEqual(desk.found, 1)

    def test_found_is_only_read(self):
        self.assertIsInstance(Desk.found, property)


class TrialTest(unittest.TestCase):
    def test_a_block_that_ends_well(self):
        desk = desk_amid_changes()
        with desk.trial() as same:
            self.assertIs(same, desk)
            desk.set_quiet(11)
            desk.set_quiet(12)
        self.assertEqual(desk.book_now().quiet, 12)
        quiets = []
        for _ in range(4):
            desk.undo()
            quiets.append(desk.book_now().quiet)
        self.assertEqual(quiets, [11, 2, 1, 4])

    def test_a_block_that_ends_by_an_error(self):
        for error in (Trouble, InvalidBook, NothingToUndo, KeyError):
            desk = desk_amid_changes()
            before = stand(desk)
            with self.assertRaises(error):
                with desk.trial():
                    desk.set_quiet(11)
                    desk.bar(("cam", "radio"))
                    raise error("as drawn")
            self.assertEqual(stand(desk), before)

    def test_undo_and_redo_within_a_block(self):
        for deeds in itertools.product(["undo", "redo", "change"], repeat=4):
            desk = desk_amid_changes()
            before = stand(desk)
            with self.assertRaises(Trouble):
                with desk.trial():
                    self.do(desk, deeds)
                    raise Trouble
            self.assertEqual(stand(desk), before)
            plain = desk_amid_changes()
            self.do(plain, deeds)
            with desk.trial():
                self.do(desk, deeds)
            self.assertEqual(stand(desk), stand(plain))

    def do(self, desk, deeds):
        for deed in deeds:
            try:
                if deed == "change":
                    desk.set_quiet(20)
                else:
                    getattr(desk, deed)()
            except (NothingToUndo, NothingToRedo):
                pass

    def test_nested_blocks(self):
        for inner, outer in itertools.product([False, True], repeat=2):
            desk = desk_amid_changes()
            before = stand(desk)
            try:
                with desk.trial():
                    desk.set_quiet(11)
                    amid = stand(desk)
                    try:
                        with desk.trial():
                            desk.undo()
                            desk.set_quiet(12)
                            if inner:
                                raise Trouble
                    except Trouble:
                        self.assertEqual(stand(desk), amid)
                    behind = stand(desk)
                    if outer:
                        raise Trouble
            except Trouble:
                self.assertEqual(stand(desk), before)
            else:
                self.assertIs(outer, False)
                self.assertEqual(stand(desk), behind)
                self.assertEqual(desk.book_now().quiet, 11 if inner else 12)

    def test_an_error_through_nested_blocks(self):
        desk = desk_amid_changes()
        before = stand(desk)
        with self.assertRaises(Trouble):
            with desk.trial():
                desk.set_quiet(11)
                with desk.trial():
                    desk.set_quiet(12)
                    raise Trouble
        self.assertEqual(stand(desk), before)

    def test_kept_answers_stay(self):
        desk = Desk(made(PLAIN))
        with self.assertRaises(Trouble):
            with desk.trial():
                desk.set_quiet(2)
                self.assertEqual(desk.answer("rest"), 2)
                raise Trouble
        self.assertEqual(desk.found, 1)
        with desk.trial():
            desk.set_quiet(2)
            self.assertEqual((desk.answer("rest"), desk.found), (2, 1))
            desk.answer("reached")
        desk.answer("reached")
        self.assertEqual(desk.found, 2)

    def test_a_block_begins_where_it_is_entered(self):
        desk = Desk(made(PLAIN))
        trial = desk.trial()
        self.assertIsInstance(trial, Trial)
        desk.set_quiet(11)
        with self.assertRaises(Trouble):
            with trial:
                desk.set_quiet(12)
                raise Trouble
        self.assertEqual(desk.book_now().quiet, 11)
        with self.assertRaises(Trouble):
            with Trial(desk) as same:
                same.undo()
                raise Trouble
        self.assertEqual(desk.book_now().quiet, 11)

    def test_changes_behind_a_block(self):
        desk = desk_amid_changes()
        with self.assertRaises(Trouble):
            with desk.trial():
                desk.undo()
                raise Trouble
        desk.redo()
        self.assertEqual(desk.book_now().quiet, 3)
        desk.set_quiet(21)
        desk.undo()
        desk.undo()
        self.assertEqual(desk.book_now().quiet, 2)


DEEDS = [("put", "mode", ("nap", (), ())), ("put", "command", ("hop", ("nap",), (), (), None)),
         ("drop", "alarm", "cold"), ("bar", ("cam", "radio")), ("unbar", ("cam", "heat")), ("quiet", None)]
WRONG_DEEDS = [(("put", "mode", ("Nap", (), ())), InvalidBook), (("drop", "mode", "idle"), NameInUse),
               (("drop", "row", "hop"), UnknownName), (("bar", ("cam",)), InvalidBook),
               (("unbar", ("hot", "ice")), UnknownName), (("quiet", 31), InvalidBook)]


class ChangeAllTest(unittest.TestCase):
    def by_single_changes(self, desk):
        desk.put_part("mode", ("nap", (), ()))
        desk.put_part("command", ("hop", ("nap",), (), (), None))
        desk.drop_part("alarm", "cold")
        desk.bar(("cam", "radio"))
        desk.unbar(("cam", "heat"))
        desk.set_quiet(None)

    def test_each_change_can_be_undone_by_itself(self):
        one, other = desk_amid_changes(), desk_amid_changes()
        given = copy.deepcopy(DEEDS)
        self.assertIsNone(one.change_all(given))
        self.assertEqual(given, DEEDS)
        self.by_single_changes(other)
        self.assertEqual(stand(one), stand(other))
        self.assertEqual(stand(one)[1], 8)

    def test_lists_in_lists(self):
        expected = desk_amid_changes()
        self.by_single_changes(expected)
        for deeds in ([("all", DEEDS)], [*DEEDS[:2], ("all", DEEDS[2:4]), ("all", []), *DEEDS[4:]],
                      [("all", [DEEDS[0], ("all", [("all", DEEDS[1:5])])]), DEEDS[5]]):
            desk = desk_amid_changes()
            desk.change_all(deeds)
            self.assertEqual(stand(desk), stand(expected))

    def test_lists_nested_deep(self):
        deeds = [("quiet", 9)]
        for _ in range(20):
            deeds = [("all", deeds)]
        desk = Desk(made(PLAIN))
        desk.change_all(deeds)
        self.assertEqual(desk.book_now().quiet, 9)

    def test_a_deed_that_raises_at_any_place(self):
        for wrong, error in WRONG_DEEDS:
            for at in range(len(DEEDS) + 1):
                deeds = [*DEEDS[:at], wrong, *DEEDS[at:]]
                for told in (deeds, [("all", deeds)], [*deeds[:2], ("all", deeds[2:])], [("quiet", 8), ("all", deeds)],
                             [("all", DEEDS[:at]), ("all", [wrong]), ("quiet", 6)]):
                    desk = desk_amid_changes()
                    before = stand(desk)
                    with self.assertRaises(error):
                        desk.change_all(told)
                    self.assertEqual(stand(desk), before)

    def test_no_changes(self):
        desk = desk_amid_changes()
        before = stand(desk)
        desk.change_all([])
        desk.change_all([("all", []), ("all", [("all", [])])])
        self.assertEqual(stand(desk), before)

    def test_within_a_trial(self):
        desk = desk_amid_changes()
        with desk.trial():
            desk.set_quiet(13)
            amid = stand(desk)
            with self.assertRaises(InvalidBook):
                desk.change_all([("quiet", 14), ("quiet", 99)])
            self.assertEqual(stand(desk), amid)
        self.assertEqual(desk.book_now().quiet, 13)

    def test_the_largest_book(self):
        desk = Desk(made(FULL))
        before = stand(desk)
        with self.assertRaises(InvalidBook):
            desk.change_all([("quiet", None), ("put", "mode", ("sixth", (), ()))])
        self.assertEqual(stand(desk), before)


if __name__ == "__main__":
    unittest.main()
