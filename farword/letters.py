"""Letters: orders that go up and frames that come down, and their written forms."""

from farword.books import is_lot, is_name
from farword.notation import read_digits

MOST_DIGITS_OF_LETTER = 18
WORDS_OF_ORDER_WITH_NAME = ("do", "run")


def format_letter(letter):
    """The written form of an order letter or a frame letter."""
    if letter[0] == "order":
        _, number, order = letter
        return " ".join(["order", str(number), *order])
    _, tick, count, mode, on = letter
    return " ".join(["frame", str(tick), str(count), mode, *on])


def read_number_of_letter(word):
    """The number of a letter that the word writes, or None if it writes none."""
    return read_digits(word, MOST_DIGITS_OF_LETTER)


def read_order(words):
    """The order that the words write, whatever book has it, or None if they write none."""
    if words == ["stop"]:
        return ("stop",)
    if len(words) != 2 or words[0] not in WORDS_OF_ORDER_WITH_NAME or not is_name(words[1]):
        return None
    return tuple(words)


def read_order_letter(words):
    """The order letter that the words behind `order` write, or None if they write none."""
    if len(words) == 0:
        return None
    number = read_number_of_letter(words[0])
    order = read_order(words[1:])
    return None if number is None or order is None else ("order", number, order)


def read_frame_letter(words):
    """The frame letter that the words behind `frame` write, or None if they write none."""
    if len(words) < 3:
        return None
    tick, count = [read_number_of_letter(word) for word in words[:2]]
    mode = words[2]
    on = tuple(words[3:])
    if tick is None or count is None or not is_name(mode) or not is_lot(on):
        return None
    return ("frame", tick, count, mode, on)


def read_letter(text):
    """The letter of which the text is the written form, or None if there is none."""
    word, *words = text.split(" ")
    if word == "order":
        return read_order_letter(words)
    return read_frame_letter(words) if word == "frame" else None
