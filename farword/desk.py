"""The desk: a book that is changed step by step, and what is known of each of its stands."""

from farword.closed import reached, verdict
from farword.errors import NothingToRedo, NothingToUndo
from farword.notation import format_book
from farword.rests import rest_bound


def find_answer(question, book):
    """The answer to the question for the book. Raises TooLarge."""
    if question == "reached":
        return len(reached(book))
    if question == "rest":
        bound, _ = rest_bound(book)
        return bound
    word, told = verdict(book)
    return told if word == "barred" else None


class Desk:
    """A desk with a book, the books ahead of its changes, and those that can be restored."""

    def __init__(self, book):
        # The books in the order of the changes between them; the present one is at this place.
        self._books = [book]
        self._at = 0
        self._answers = {}

    def put_part(self, sort, part):
        """Changes the book to the one with this tuple. Raises InvalidBook."""
        self._change_to(self.book_now().with_part(sort, part))

    def drop_part(self, sort, name):
        """Changes the book to the one without this tuple. Raises UnknownName, NameInUse, InvalidBook."""
        self._change_to(self.book_now().without_part(sort, name))

    def bar(self, lot):
        """Changes the book to the one with this barred lot. Raises InvalidBook."""
        self._change_to(self.book_now().with_barred(lot))

    def unbar(self, lot):
        """Changes the book to the one without this barred lot. Raises UnknownName."""
        self._change_to(self.book_now().without_barred(lot))

    def set_quiet(self, quiet):
        """Changes the book to the one with this quiet. Raises InvalidBook."""
        self._change_to(self.book_now().with_quiet(quiet))

    def book_now(self):
        """The present book."""
        return self._books[self._at]

    def answer(self, question):
        """The answer to the question for the present book. Raises TooLarge."""
        # Books have the same written form just if all of their parts are the same.
        key = (question, format_book(self.book_now()))
        if key not in self._answers:
            self._answers[key] = find_answer(question, self.book_now())
        kept = self._answers[key]
        return list(kept) if question == "barred" and kept is not None else kept

    def undo(self):
        """Takes back the last change that is left. Raises NothingToUndo."""
        if self._at == 0:
            raise NothingToUndo("no change is left to be taken back")
        self._at = self._at - 1

    def redo(self):
        """Restores the change that was taken back last. Raises NothingToRedo."""
        if self._at == len(self._books) - 1:
            raise NothingToRedo("no change is left to be restored")
        self._at = self._at + 1

    def trial(self):
        """An object for a `with` statement, behind whose block nothing of it remains if it is left by an error."""
        return Trial(self)

    def change_all(self, deeds):
        """Makes the changes of the list; if one of them raises, none of them remains."""
        with self.trial():
            for deed in deeds:
                self._do(deed)

    @property
    def found(self):
        """How many answers were found so far."""
        return len(self._answers)

    def _change_to(self, book):
        del self._books[self._at + 1:]
        self._books.append(book)
        self._at = self._at + 1

    def _do(self, deed):
        word = deed[0]
        if word == "put":
            self.put_part(deed[1], deed[2])
        elif word == "drop":
            self.drop_part(deed[1], deed[2])
        elif word == "bar":
            self.bar(deed[1])
        elif word == "unbar":
            self.unbar(deed[1])
        elif word == "quiet":
            self.set_quiet(deed[1])
        else:
            self.change_all(deed[1])


class Trial:
    """A block of changes at a desk, which is as it was ahead of the block if an error leaves it."""

    def __init__(self, desk):
        self._desk = desk
        self._books = []
        self._at = 0

    def __enter__(self):
        self._books = list(self._desk._books)
        self._at = self._desk._at
        return self._desk

    def __exit__(self, kind, value, trace):
        desk = self._desk
        if kind is not None:
            desk._books = self._books
            desk._at = self._at
