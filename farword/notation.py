"""Notation: the written forms of books and of inputs."""

from farword.books import Book, check_holds, is_input, is_lot
from farword.errors import InvalidBook, InvalidNotation

# The sorts of lines of a book, in their order.
SORTS = ("holds", "mode", "barred", "command", "alarm", "row", "quiet")
SINGLE_SORTS = ("holds", "quiet")
WORDS_OF_PART = {"mode": 3, "command": 5, "alarm": 4}
DIGITS = "0123456789"
MOST_DIGITS = 2


def format_lot(lot):
    """The written form of a lot of names."""
    return ",".join(lot) if len(lot) > 0 else "-"


def format_target(to):
    """The written form of a mode that may be missing."""
    return "-" if to is None else to


def format_book(book):
    """The written form of a book."""
    lines = [f"holds {format_lot(book.holds)}"]
    for name, on, off in book.modes:
        lines.append(f"mode {name} {format_lot(on)} {format_lot(off)}")
    for lot in book.barred:
        lines.append(f"barred {format_lot(lot)}")
    for name, let, on, off, to in book.commands:
        lines.append(f"command {name} {format_lot(let)} {format_lot(on)} {format_lot(off)} {format_target(to)}")
    for name, on, off, to in book.alarms:
        lines.append(f"alarm {name} {format_lot(on)} {format_lot(off)} {format_target(to)}")
    for name, steps in book.rows:
        words = [f"{ticks}:{command}" for ticks, command in steps]
        lines.append(" ".join(["row", name, *words]))
    if book.quiet is not None:
        lines.append(f"quiet {book.quiet}")
    return "\n".join(lines)


def read_lot(word):
    """The lot that the word writes; whether it is one is left to the rules for books and inputs."""
    return () if word == "-" else tuple(word.split(","))


def read_target(word):
    """The mode that the word writes, or None for a missing one."""
    return None if word == "-" else word


def read_digits(word, most):
    """The number that the word writes with at most so many digits, or None if it writes none."""
    if not 1 <= len(word) <= most or not all([sign in DIGITS for sign in word]):
        return None
    if len(word) > 1 and word[0] == "0":
        return None
    return int(word)


def read_number(word):
    """The number of a book that the word writes, or None if it writes none."""
    return read_digits(word, MOST_DIGITS)


def read_step(word):
    """The step of a row that the word writes, or None if it has another form."""
    words = word.split(":")
    if len(words) != 2:
        return None
    ticks = read_number(words[0])
    return None if ticks is None else (ticks, words[1])


def read_row(words):
    """The row that the words behind `row` write, or None if they have another form."""
    steps = [read_step(word) for word in words[1:]]
    if len(steps) == 0 or None in steps:
        return None
    return (words[0], tuple(steps))


def read_part(sort, words):
    """The mode, command, alarm or row that the words behind its sort write, or None if they have another form.

    Whether its names and lots fit a book is left to the book.
    """
    if sort == "row":
        return read_row(words)
    if len(words) != WORDS_OF_PART[sort]:
        return None
    if sort == "mode":
        return (words[0], read_lot(words[1]), read_lot(words[2]))
    lots = [read_lot(word) for word in words[1:-1]]
    return (words[0], *lots, read_target(words[-1]))


def read_line(sort, words):
    """What a line of a book of this sort says by the words behind the sort, or None if it has another form."""
    if sort not in SINGLE_SORTS and sort != "barred":
        return read_part(sort, words)
    if len(words) != 1:
        return None
    if sort == "quiet":
        return read_number(words[0])
    lot = read_lot(words[0])
    # A book sorts its holds by itself, so that it would not see a wrong order.
    return lot if is_lot(lot) else None


def has_place(said, sort):
    """Whether a line of this sort may come behind the lines that said this."""
    at = SORTS.index(sort)
    if any([len(said[later]) > 0 for later in SORTS[at + 1:]]):
        return False
    if sort in SINGLE_SORTS and len(said[sort]) > 0:
        return False
    # Of the sorts ahead only holds and modes have to be there.
    return all([len(said[needed]) > 0 for needed in SORTS[:min(at, 2)]])


def book_of(said):
    """The book that the lines say, with a line of a mode or more. Raises InvalidBook."""
    quiet = said["quiet"][0] if len(said["quiet"]) > 0 else None
    holds = list(said["holds"][0])
    return Book(holds, said["mode"], said["barred"], said["command"], said["alarm"], said["row"], quiet)


def is_sound(said):
    """Whether what the lines say breaks no rule for books; the modes may still be to come."""
    try:
        if len(said["mode"]) == 0:
            check_holds(list(said["holds"][0]))
        else:
            book_of(said)
    except InvalidBook:
        return False
    return True


def with_line(said, line):
    """What the lines and one more say, or None if it cannot stand behind them."""
    sort, *words = line.split(" ")
    if sort not in SORTS or not has_place(said, sort):
        return None
    part = read_line(sort, words)
    if part is None:
        return None
    more = dict(said)
    more[sort] = [*said[sort], part]
    return more if is_sound(more) else None


def parse_book(text):
    """The book of which the text is a written form. Raises InvalidNotation."""
    said = {sort: [] for sort in SORTS}
    lines = text.split("\n")
    for at, line in enumerate(lines, start=1):
        said = with_line(said, line)
        if said is None:
            raise InvalidNotation(at)
    if len(said["mode"]) == 0:
        raise InvalidNotation(len(lines) + 1)
    return book_of(said)


def format_input(told):
    """The written form of an input."""
    alarms, order = told
    words = ["wait"] if order is None else list(order)
    return " ".join([format_lot(alarms), *words])


def format_inputs(inputs):
    """The written form of a list of inputs."""
    return "\n".join([format_input(told) for told in inputs])


def read_input(book, line):
    """The input of the book that the line writes, or None if it writes none."""
    word, *words = line.split(" ")
    order = None if words == ["wait"] else tuple(words)
    told = (read_lot(word), order)
    return told if is_input(book, told) else None


def parse_inputs(book, text):
    """The list of inputs of the book of which the text is the written form. Raises InvalidNotation."""
    if text == "":
        return []
    inputs = []
    for at, line in enumerate(text.split("\n"), start=1):
        told = read_input(book, line)
        if told is None:
            raise InvalidNotation(at)
        inputs.append(told)
    return inputs
