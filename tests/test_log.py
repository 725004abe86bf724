"""Points [30] to [35]: the words of inputs and standings, and the log."""

import random
import unittest

from farword.errors import FarError, InvalidInput, TooLarge, Unmendable
from farword.log import (Told, begin_log, input_word, read_log, standing_word, word_input, word_standing, writes_for)
from farword.memory import Memory
from farword.steps import inputs_of
from tests.plain import Plain, parts_by_chance
from tests.samples import FULL, PLAIN, SMALLEST, made

TURNS = (1, 2, 255, 256, 16777215, 16777216, 16777217, 33554432, 50000000)
SIZES = (10, 12, 14, 30, 400)


def word_by_hand(parts, alarms, order, turn):
    """The input word, straight by point [31]."""
    number = 0
    if order == ("stop",):
        number = 1
    elif order is not None and order[0] == "do":
        number = 2 + sorted(part[0] for part in parts["commands"]).index(order[1])
    elif order is not None:
        number = 10 + [part[0] for part in parts["rows"]].index(order[1])
    lot = sum(2 ** at for at, part in enumerate(parts["alarms"]) if part[0] in alarms)
    while turn >= 16777216:
        turn -= 16777216
    return number + 16 * lot + 256 * turn


def standing_by_hand(parts, standing):
    """The standing word, straight by point [32]."""
    mode, lot, row, place, left, silence = standing
    word = [part[0] for part in parts["modes"]].index(mode)
    word += 8 * sum(2 ** at for at, hold in enumerate(sorted(parts["holds"])) if hold in lot)
    if row is not None:
        word += 512 * ([part[0] for part in parts["rows"]].index(row) + 1)
    return word + 2048 * place + 8192 * left + 131072 * silence


def begun(parts, cells):
    memory = Memory(cells, 32)
    begin_log(made(parts), memory)
    return memory


def told_by(book, memory):
    told = read_log(book, memory)
    return (told.turn, told.standing, told.ticks, told.orders, told.inputs)


def rows_of(memory):
    return [memory.row_at(cell) for cell in range(memory.cells)]


def some_inputs(parts, many, seed):
    plain, chance = Plain(parts), random.Random(seed)
    return [chance.choice(plain.inputs()) if chance.random() < 0.6 else ((), None) for _ in range(many)]


class InputWordsTest(unittest.TestCase):
    def test_words_of_all_inputs(self):
        for parts in (SMALLEST, PLAIN, FULL, parts_by_chance(7), {**PLAIN, "alarms": PLAIN["alarms"][::-1]}):
            book = made(parts)
            for turn in TURNS:
                words = []
                for alarms, order in inputs_of(book):
                    words.append(word_by_hand(parts, alarms, order, turn))
                    self.assertEqual(input_word(book, alarms, order, turn), words[-1])
                    self.assertEqual(word_input(book, words[-1], turn), (alarms, order))
                    self.assertTrue(0 <= words[-1] < 2 ** 32)
                self.assertEqual(len(set(words)), len(words))

    def test_some_words(self):
        book = made(PLAIN)
        for alarms, order, word in (((), None, 256), ((), ("stop",), 257), ((), ("do", "go"), 258),
                                    ((), ("do", "off"), 259), ((), ("do", "warm"), 260), ((), ("run", "plan"), 266),
                                    ((), ("run", "again"), 267), (("low",), None, 272), (("cold",), None, 288),
                                    (("cold", "low"), ("run", "again"), 315)):
            self.assertEqual(input_word(book, alarms, order, 1), word)
        self.assertEqual(input_word(book, (), None, 16777216), 0)
        self.assertEqual(input_word(book, (), None, 16777215), 2 ** 32 - 256)

    def test_words_that_are_none(self):
        for parts in (SMALLEST, PLAIN, FULL):
            book = made(parts)
            for turn in (1, 3, 16777217, 16777216):
                known = {word_by_hand(parts, alarms, order, turn): (alarms, order) for alarms, order in inputs_of(book)}
                words = [*range(2048), 2 ** 32 - 1, 2 ** 32 - 256, 2 ** 31, 256 * 16777215]
                for word in words:
                    self.assertEqual(word_input(book, word, turn), known.get(word))

    def test_another_round(self):
        book = made(PLAIN)
        for alarms, order in inputs_of(book):
            for turn in (1, 2, 3, 16777215):
                self.assertIsNone(word_input(book, input_word(book, alarms, order, turn), turn + 1))
                self.assertIsNone(word_input(book, input_word(book, alarms, order, turn + 1), turn))
                again = word_input(book, input_word(book, alarms, order, turn), turn + 16777216)
                self.assertEqual(again, (alarms, order))

    def test_numbers_of_orders_and_alarms_that_are_none(self):
        book = made(PLAIN)
        for number in range(16):
            known = {0: None, 1: ("stop",), 2: ("do", "go"), 3: ("do", "off"), 4: ("do", "warm"), 10: ("run", "plan"),
                     11: ("run", "again")}
            told = word_input(book, 256 * 5 + number, 5)
            self.assertEqual(told, ((), known[number]) if number in known else None)
        lots = [(), ("low",), ("cold",), ("cold", "low")]
        for number in range(16):
            told = word_input(book, 256 * 5 + 16 * number, 5)
            self.assertEqual(told, (lots[number], None) if number < 4 else None)
        self.assertIsNone(word_input(made(SMALLEST), 256 + 16, 1))
        self.assertIsNone(word_input(made(SMALLEST), 256 + 2, 1))

    def test_wrong_inputs(self):
        for alarms, order in ((("hot",), None), (("low", "cold"), None), ((), ("do", "hop")), ((), ("run", "go")),
                              ((), ()), (("low", "low"), ("stop",))):
            with self.assertRaises(InvalidInput) as caught:
                input_word(made(PLAIN), alarms, order, 1)
            self.assertIsInstance(caught.exception, FarError)


class StandingWordsTest(unittest.TestCase):
    def test_words_of_all_standings(self):
        for parts in (SMALLEST, PLAIN, *[parts_by_chance(seed, holds=4, modes=4, rows=3) for seed in range(12)]):
            book, words = made(parts), []
            standings = Plain(parts).standings()
            for standing in standings[::1 + len(standings) // 500]:
                words.append(standing_by_hand(parts, standing))
                self.assertEqual(standing_word(book, standing), words[-1])
                self.assertEqual(word_standing(book, words[-1]), standing)
            self.assertEqual(len(set(words)), len(words))

    def test_the_greatest_standings(self):
        book, chance = made(FULL), random.Random(3)
        standings = Plain(FULL).standings()
        for standing in [standings[-1], *chance.sample(standings, 500)]:
            word = standing_by_hand(FULL, standing)
            self.assertTrue(0 <= word < 2 ** 32)
            self.assertEqual(standing_word(book, standing), word)
            self.assertEqual(word_standing(book, word), standing)

    def test_some_words(self):
        book = made(PLAIN)
        self.assertEqual(standing_word(book, ("safe", (), None, 0, 0, 0)), 0)
        self.assertEqual(standing_word(book, ("idle", ("cam", "radio"), "again", 0, 9, 3)),
                         2 + 8 * 5 + 512 * 2 + 8192 * 9 + 131072 * 3)
        self.assertEqual(standing_word(book, ("work", ("heat",), "plan", 1, 1, 0)), 1 + 8 * 2 + 512 + 2048 + 8192)

    def test_all_words_of_a_small_book(self):
        parts = {**SMALLEST, "holds": ["a", "b"], "modes": [("m", (), ()), ("n", (), ())], "quiet": 2,
                 "commands": [("c", (), (), (), None)], "rows": [("r", ((1, "c"), (2, "c")))]}
        book = made(parts)
        known = {standing_by_hand(parts, standing): standing for standing in Plain(parts).standings()}
        for word in range(4 * 131072):
            if word % 131072 < 4 * 8192 or word % 97 == 0:
                self.assertEqual(word_standing(book, word), known.get(word))

    def test_words_of_none(self):
        book = made(PLAIN)
        for word in (3, 7, 8 * 8, 8 * 63, 512 * 3, 512, 512 + 8192 * 3, 512 + 2048 + 8192 * 2, 512 + 2 * 2048 + 8192,
                     2048, 8192, 131072 * 4, 131072 * 31, 2 ** 31, 2 ** 32 - 1, -1, -131072, 2 ** 40,
                     2 * 512 + 8192 * 10, 2 * 512 + 2048 + 8192):
            with self.subTest(word=word):
                self.assertIsNone(word_standing(book, word))
        self.assertIsNone(word_standing(made(PLAIN, quiet=None), 131072))
        self.assertIsNone(word_standing(made(SMALLEST), 16))


class BeginTest(unittest.TestCase):
    def test_logs_that_begin(self):
        for parts in (SMALLEST, PLAIN, FULL):
            for cells in SIZES:
                book, memory = made(parts), Memory(cells, 32)
                self.assertIsNone(begin_log(book, memory))
                values = [memory.read(cell) for cell in range(cells)]
                expected = [0] * cells
                expected[cells // 2] = 1
                expected[cells // 2 + 1] = standing_by_hand(parts, Plain(parts).first())
                self.assertEqual(values, expected)
                self.assertEqual(told_by(book, memory), (1, Plain(parts).first(), 0, 0, []))

    def test_sizes_that_are_none(self):
        for cells in (1, 2, 4, 8, 9, 11, 13, 399, 401, 402, 412, 512):
            memory = Memory(cells, 32)
            before = rows_of(memory)
            with self.assertRaises(TooLarge) as caught:
                begin_log(made(PLAIN), memory)
            self.assertIsInstance(caught.exception, FarError)
            self.assertEqual(rows_of(memory), before)

    def test_all_sizes(self):
        for cells in range(10, 401, 2):
            self.assertEqual(begun(SMALLEST, cells).read(cells // 2), 1)


class ToldTest(unittest.TestCase):
    def test_fields_and_copies(self):
        inputs = [((), None)]
        told = Told(3, ("m", (), None, 0, 0, 0), 7, 2, inputs)
        inputs.clear()
        self.assertEqual((told.turn, told.standing, told.ticks, told.orders, told.inputs),
                         (3, ("m", (), None, 0, 0, 0), 7, 2, [((), None)]))

    def test_lists_are_new(self):
        book, memory = made(PLAIN), begun(PLAIN, 10)
        for cell, word in writes_for(book, memory, (), ("stop",)):
            memory.write(cell, word)
        read_log(book, memory).inputs.clear()
        self.assertEqual(read_log(book, memory).inputs, [((), ("stop",))])
        writes_for(book, memory, (), None).clear()
        self.assertEqual(len(writes_for(book, memory, (), None)), 5)


class FillingTest(unittest.TestCase):
    """Logs that take one input after another; each of them is written only so far, and then whole."""

    def test_each_number_of_writes(self):
        for parts, cells, many in ((PLAIN, 10, 25), (PLAIN, 12, 30), (SMALLEST, 10, 8), (FULL, 14, 40),
                                   (PLAIN, 400, 420)):
            self.check_filling(parts, cells, some_inputs(parts, many, cells))
        for seed in range(20):
            parts = parts_by_chance(seed, rows=3, alarms=4)
            self.check_filling(parts, 10 + 2 * (seed % 3), some_inputs(parts, 15, seed))

    def check_filling(self, parts, cells, inputs):
        book, plain, memory = made(parts), Plain(parts), begun(parts, cells)
        room = cells // 2 - 4
        for at, told in enumerate(inputs):
            taken = inputs[:at + 1]
            before = told_by(book, memory)
            rows = rows_of(memory)
            writes = writes_for(book, memory, *told)
            self.assertEqual(rows_of(memory), rows)
            self.check_writes(writes, parts, cells, taken, before[1])
            for many, (cell, word) in enumerate(writes):
                self.check_between(book, memory, before, many)
                memory.write(cell, word)
            turn = 1 + at // room
            orders = sum(order is not None for _, order in taken)
            self.assertEqual(told_by(book, memory), (turn, plain.tick(before[1], *told)[0], at + 1, orders,
                                                     inputs[room * (turn - 1):at + 1]))

    def check_between(self, book, memory, before, many):
        """Behind so many writes, but not all, the log tells what it told ahead of them."""
        told = told_by(book, memory)
        self.assertEqual(told[1:4], before[1:4])
        self.assertEqual((told[0], told[4]), (before[0] + 1, []) if many == 4 else (before[0], before[4]))

    def check_writes(self, writes, parts, cells, taken, standing):
        """The writes for the last one of the inputs, straight by points [33] and [35]."""
        half, room, ahead = cells // 2, cells // 2 - 4, taken[:-1]
        turn = 1 + len(ahead) // room
        first = turn % 2 * half
        word = word_by_hand(parts, *taken[-1], turn)
        if len(ahead) == 0 or len(ahead) % room != 0:
            self.assertEqual(writes, [(first + 4 + len(ahead) % room, word)])
            return
        orders = sum(order is not None for _, order in ahead)
        self.assertEqual(writes, [(first + 1, standing_by_hand(parts, standing)), (first + 2, len(ahead)),
                                  (first + 3, orders), (first, turn), (first + 4, word)])

    def test_writing_goes_on_behind_a_broken_row_of_writes(self):
        chance = random.Random(5)
        for seed in range(15):
            parts = parts_by_chance(seed, rows=2)
            book, plain, memory = made(parts), Plain(parts), begun(parts, 10 + 2 * (seed % 2))
            standing, taken = plain.first(), []
            for told in some_inputs(parts, 40, seed):
                writes = writes_for(book, memory, *told)
                done = chance.choice([len(writes), chance.randint(0, len(writes))])
                for cell, word in writes[:done]:
                    memory.write(cell, word)
                if done == len(writes):
                    standing = plain.tick(standing, *told)[0]
                    taken.append(told)
                orders = sum(order is not None for _, order in taken)
                self.assertEqual(told_by(book, memory)[1:4], (standing, len(taken), orders))

    def test_a_refused_order_is_an_order(self):
        book, memory = made(PLAIN), begun(PLAIN, 20)
        for told in (((), ("do", "off")), ((), None), (("low",), None), ((), ("stop",))):
            for cell, word in writes_for(book, memory, *told):
                memory.write(cell, word)
        self.assertEqual((read_log(book, memory).ticks, read_log(book, memory).orders), (4, 2))

    def test_rounds_beyond_the_words(self):
        book = made(PLAIN)
        for turn in (16777215, 16777216, 16777217):
            memory = Memory(10, 32)
            first = turn % 2 * 5
            for cell, word in ((first + 1, 1), (first + 2, 90), (first + 3, 40), (first, turn), (5 - first, turn - 1),
                               (first + 4, word_by_hand(PLAIN, ("low",), ("stop",), turn))):
                memory.write(cell, word)
            standing = Plain(PLAIN).tick(("work", (), None, 0, 0, 0), ("low",), ("stop",))[0]
            self.assertEqual(told_by(book, memory), (turn, standing, 91, 41, [(("low",), ("stop",))]))
            other = 5 - first
            self.assertEqual(writes_for(book, memory, (), None), [
                (other + 1, standing_by_hand(PLAIN, standing)), (other + 2, 91), (other + 3, 41), (other, turn + 1),
                (other + 4, word_by_hand(PLAIN, (), None, turn + 1))])


class FlipsTest(unittest.TestCase):
    def setUp(self):
        self.book = made(PLAIN)
        self.memory = begun(PLAIN, 20)
        # Round 2, which has three of six inputs, is in the half 0: the cells 0 to 9.
        for told in some_inputs(PLAIN, 9, 2):
            for cell, word in writes_for(self.book, self.memory, *told):
                self.memory.write(cell, word)
        self.told = told_by(self.book, self.memory)
        self.assertEqual((self.told[0], self.told[2], len(self.told[4])), (2, 9, 3))

    def test_one_flipped_place_in_each_cell(self):
        writes = writes_for(self.book, self.memory, (), None)
        for place in range(39):
            for cell in range(20):
                self.memory.flip(cell, place)
            rows = rows_of(self.memory)
            self.assertEqual(told_by(self.book, self.memory), self.told)
            self.assertEqual(writes_for(self.book, self.memory, (), None), writes)
            self.assertEqual(rows_of(self.memory), rows)
            for cell in range(20):
                self.memory.flip(cell, place)

    def flip_two(self, *cells):
        for cell in cells:
            self.memory.flip(cell, 4)
            self.memory.flip(cell, 38)

    def check_unmendable(self, cell):
        rows = rows_of(self.memory)
        for ask in (lambda: read_log(self.book, self.memory), lambda: writes_for(self.book, self.memory, (), None)):
            with self.assertRaises(Unmendable) as caught:
                ask()
            self.assertEqual(caught.exception.place, cell)
        self.assertEqual(rows_of(self.memory), rows)

    def test_two_flipped_places_in_a_cell_that_is_read(self):
        for cell in (0, 10, 1, 2, 3, 4, 5, 6, 7):
            self.flip_two(cell)
            self.check_unmendable(cell)
            self.flip_two(cell)

    def test_two_flipped_places_in_a_cell_that_is_not_read(self):
        for cell in (8, 9, 11, 12, 13, 14, 19):
            self.flip_two(cell)
        self.assertEqual(told_by(self.book, self.memory), self.told)
        self.assertEqual([cell for cell, _ in writes_for(self.book, self.memory, (), None)], [7])

    def test_the_first_one_in_the_order_of_reading(self):
        order = [0, 10, 1, 2, 3, 4, 5, 6, 7]
        self.flip_two(*order)
        for cell in order:
            self.check_unmendable(cell)
            self.flip_two(cell)
        self.assertEqual(told_by(self.book, self.memory), self.told)

    def test_the_order_of_reading_in_the_upper_half(self):
        memory = begun(PLAIN, 10)
        order = [0, 5, 6, 7, 8, 9]
        for cell in [*order, 1, 2, 3, 4]:
            memory.flip(cell, 0)
            memory.flip(cell, 1)
        for cell in order:
            with self.assertRaises(Unmendable) as caught:
                read_log(self.book, memory)
            self.assertEqual(caught.exception.place, cell)
            memory.flip(cell, 0)
        self.assertEqual(told_by(self.book, memory), (1, Plain(PLAIN).first(), 0, 0, []))

    def test_a_wrong_input_comes_ahead_of_it(self):
        self.flip_two(0)
        rows = rows_of(self.memory)
        for alarms, order in ((("hot",), None), (("low", "cold"), None), ((), ("do", "hop")), ((), ())):
            with self.assertRaises(InvalidInput):
                writes_for(self.book, self.memory, alarms, order)
        self.assertEqual(rows_of(self.memory), rows)

    def test_a_full_half_is_read_to_its_end(self):
        for told in some_inputs(PLAIN, 3, 4):
            for cell, word in writes_for(self.book, self.memory, *told):
                self.memory.write(cell, word)
        self.assertEqual(len(read_log(self.book, self.memory).inputs), 6)
        self.flip_two(9)
        self.check_unmendable(9)


if __name__ == "__main__":
    unittest.main()
