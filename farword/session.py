"""Sessions: a desk and a standing that obey lines."""

from farword.desk import Desk
from farword.errors import InvalidBook, NameInUse, NothingToRedo, NothingToUndo, TooLarge, UnknownName
from farword.notation import format_book, read_input, read_lot, read_number, read_part
from farword.report import standing_line, step_line
from farword.steps import first_standing, step_of

PART_SORTS = ("mode", "command", "alarm", "row")
NO_FORM = "error command"


class Session:
    """A session whose desk begins with the book."""

    def __init__(self, book):
        self._desk = Desk(book)
        self._standing = first_standing(book)

    def obey(self, line):
        """Obeys the line; the reply."""
        try:
            return self._reply(line.split(" "))
        except InvalidBook:
            return "error book"
        except UnknownName as unknown:
            return f"error name {unknown.name}"
        except NameInUse as needed:
            return f"error used {needed.name}"
        except TooLarge:
            return "error large"
        except NothingToUndo:
            return "error undo"
        except NothingToRedo:
            return "error redo"

    def play(self, text):
        """Obeys the lines of the text; the list of the replies."""
        return [self.obey(line) for line in text.split("\n")]

    def _reply(self, words):
        """The reply to a line of these words. Raises what the line's change or question raises."""
        word, *told = words
        if "" in words:
            return NO_FORM
        if len(told) == 0:
            return self._reply_to_word(word)
        if word in PART_SORTS:
            return self._put(word, read_part(word, told))
        if word == "drop":
            return self._drop(told)
        if word == "tick":
            return self._tick(told)
        return self._reply_to_two(word, told[0]) if len(told) == 1 else NO_FORM

    def _reply_to_word(self, word):
        """The reply to a line of one word."""
        if word == "undo":
            self._desk.undo()
            return self._begin()
        if word == "redo":
            self._desk.redo()
            return self._begin()
        if word == "stand":
            return standing_line(self._standing)
        if word == "verdict":
            return self._verdict()
        if word == "rest":
            return str(self._desk.answer("rest"))
        return format_book(self._desk.book_now()) if word == "book" else NO_FORM

    def _reply_to_two(self, word, told):
        """The reply to a line of two words, other than one with a part of a book."""
        if word == "bar":
            self._desk.bar(read_lot(told))
            return self._begin()
        if word == "unbar":
            self._desk.unbar(read_lot(told))
            return self._begin()
        return self._set_quiet(told) if word == "quiet" else NO_FORM

    def _begin(self):
        """Begins anew with the book as it is now, behind a change."""
        self._standing = first_standing(self._desk.book_now())
        return "ok"

    def _put(self, sort, part):
        if part is None:
            return NO_FORM
        self._desk.put_part(sort, part)
        return self._begin()

    def _drop(self, told):
        if len(told) != 2 or told[0] not in PART_SORTS:
            return NO_FORM
        self._desk.drop_part(told[0], told[1])
        return self._begin()

    def _set_quiet(self, told):
        quiet = read_number(told)
        if quiet is None and told != "-":
            return NO_FORM
        self._desk.set_quiet(quiet)
        return self._begin()

    def _tick(self, told):
        if len(told) < 2:
            return NO_FORM
        book = self._desk.book_now()
        read = read_input(book, " ".join(told))
        if read is None:
            return "error input"
        alarms, order = read
        step = step_of(book, self._standing, alarms, order)
        self._standing = step.standing
        return step_line(book, step)

    def _verdict(self):
        history = self._desk.answer("barred")
        if history is None:
            many = self._desk.answer("reached")
            return f"clean {many}"
        return f"barred {len(history)}"
