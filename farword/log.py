"""The log: inputs and standings as words in the cells of a memory, written so that it can break off anywhere."""

from farword.books import check_inputs, names_of
from farword.errors import TooLarge
from farword.steps import alarm_lots, first_standing, is_standing, orders_of, step_of

LEAST_CELLS = 10
MOST_CELLS = 400
CELLS_OF_HEAD = 4
FIRST_COMMAND = 2
FIRST_ROW = 10
ORDERS = 16
ORDERS_AND_ALARMS = 256
ROUNDS = 16777216
# What the parts of a standing word are multiplied by.
BY_HOLDS = 8
BY_ROW = 512
BY_PLACE = 2048
BY_LEFT = 8192
BY_SILENCE = 131072


class Told:
    """What a log tells: the round, the present standing, ticks and orders, and the inputs of the round."""

    def __init__(self, turn, standing, ticks, orders, inputs):
        self.turn = turn
        self.standing = standing
        self.ticks = ticks
        self.orders = orders
        self.inputs = list(inputs)


def place_sum(lot, names):
    """The sum of 2 ** place over the places that the names of the lot have in the list."""
    return sum([1 << names.index(name) for name in lot])


def order_number(book, order):
    """The order number of an order of the book, or of None."""
    if order is None:
        return 0
    if order[0] == "do":
        return FIRST_COMMAND + names_of(book.commands).index(order[1])
    if order[0] == "run":
        return FIRST_ROW + names_of(book.rows).index(order[1])
    return 1


class InputCode:
    """The numbers of the orders and of the lots of alarms of a book, and the input words that they make."""

    def __init__(self, book):
        alarms = names_of(book.alarms)
        self._orders = {order_number(book, order): order for order in orders_of(book)}
        self._lots = {place_sum(lot, alarms): lot for lot in alarm_lots(book)}

    def read(self, word, turn):
        """The input of which this is the input word in the round, or None if there is none."""
        order = word % ORDERS
        lot = word // ORDERS % (ORDERS_AND_ALARMS // ORDERS)
        if word // ORDERS_AND_ALARMS != turn % ROUNDS or order not in self._orders or lot not in self._lots:
            return None
        return (self._lots[lot], self._orders[order])


def word_of_input(book, alarms, order, turn):
    """The input word of an input of the book in the round."""
    lot = place_sum(alarms, names_of(book.alarms))
    return order_number(book, order) + ORDERS * lot + ORDERS_AND_ALARMS * (turn % ROUNDS)


def input_word(book, alarms, order, turn):
    """The input word of an input in the round. Raises InvalidInput."""
    check_inputs(book, [(alarms, order)])
    return word_of_input(book, alarms, order, turn)


def word_input(book, word, turn):
    """The input of which the integer is the input word in the round, or None if there is none."""
    return InputCode(book).read(word, turn)


def standing_word(book, standing):
    """The standing word of a standing of the book."""
    mode, lot, row, place, left, silence = standing
    row_number = 0 if row is None else names_of(book.rows).index(row) + 1
    word = names_of(book.modes).index(mode) + BY_HOLDS * place_sum(lot, book.holds)
    return word + BY_ROW * row_number + BY_PLACE * place + BY_LEFT * left + BY_SILENCE * silence


def part_of(word, low, high):
    """The factor of `low` in a word whose next greater parts are multiples of `high`."""
    return word % high // low


def word_standing(book, word):
    """The standing of which the integer is the standing word, or None if there is none."""
    modes = names_of(book.modes)
    rows = [None, *names_of(book.rows)]
    mode = part_of(word, 1, BY_HOLDS)
    holds = part_of(word, BY_HOLDS, BY_ROW)
    row = part_of(word, BY_ROW, BY_PLACE)
    if mode >= len(modes) or row >= len(rows) or holds >> len(book.holds) != 0:
        return None
    lot = tuple([hold for at, hold in enumerate(book.holds) if holds >> at & 1])
    place = part_of(word, BY_PLACE, BY_LEFT)
    left = part_of(word, BY_LEFT, BY_SILENCE)
    standing = (modes[mode], lot, rows[row], place, left, word // BY_SILENCE)
    return standing if is_standing(book, standing) else None


def half_of(memory, turn):
    """The first cell of the half into which the round is written."""
    return 0 if turn % 2 == 0 else memory.cells // 2


def head_writes(book, memory, turn, standing, ticks, orders):
    """The list of the writes of a head: the round comes last, as the head counts from it on."""
    first = half_of(memory, turn)
    words = [standing_word(book, standing), ticks, orders]
    return [*[(first + at, word) for at, word in enumerate(words, start=1)], (first, turn)]


def begin_log(book, memory):
    """Writes the head of round 1 with the first standing into the memory. Raises TooLarge."""
    if not LEAST_CELLS <= memory.cells <= MOST_CELLS or memory.cells % 2 != 0:
        raise TooLarge(f"a log has an even number of cells from {LEAST_CELLS} to {MOST_CELLS}")
    for cell, word in head_writes(book, memory, 1, first_standing(book), 0, 0):
        memory.write(cell, word)


def read_inputs(book, memory, turn):
    """The list of the inputs behind the head of the round. Raises Unmendable."""
    code = InputCode(book)
    first = half_of(memory, turn)
    inputs = []
    for cell in range(first + CELLS_OF_HEAD, first + memory.cells // 2):
        told = code.read(memory.read(cell), turn)
        if told is None:
            break
        inputs.append(told)
    return inputs


def standing_behind(book, standing, inputs):
    """The standing of the plain book behind the inputs."""
    for alarms, order in inputs:
        standing = step_of(book, standing, alarms, order).standing
    return standing


def read_log(book, memory):
    """What the log tells. Raises Unmendable."""
    turn = max(memory.read(0), memory.read(memory.cells // 2))
    first = half_of(memory, turn)
    word, ticks, orders = [memory.read(first + at) for at in range(1, CELLS_OF_HEAD)]
    inputs = read_inputs(book, memory, turn)
    standing = standing_behind(book, word_standing(book, word), inputs)
    obeyed = [order for _, order in inputs if order is not None]
    return Told(turn, standing, ticks + len(inputs), orders + len(obeyed), inputs)


def writes_behind(book, memory, told, alarms, order):
    """The list of the writes that a log which tells this needs to take an input of the book, in order."""
    cell = half_of(memory, told.turn) + CELLS_OF_HEAD + len(told.inputs)
    if cell < half_of(memory, told.turn) + memory.cells // 2:
        return [(cell, word_of_input(book, alarms, order, told.turn))]
    turn = told.turn + 1
    head = head_writes(book, memory, turn, told.standing, told.ticks, told.orders)
    cell = half_of(memory, turn) + CELLS_OF_HEAD
    return [*head, (cell, word_of_input(book, alarms, order, turn))]


def writes_for(book, memory, alarms, order):
    """The list of the writes that the log needs to take the input, in order. Raises InvalidInput, Unmendable."""
    check_inputs(book, [(alarms, order)])
    return writes_behind(book, memory, read_log(book, memory), alarms, order)
