"""Points [16] and [17]: memories."""

import itertools
import random
import unittest

from farword.errors import FarError, Unmendable
from farword.memory import Memory
from farword.words import coded, flipped, places_of, state_of

SIZES = [(1, 4), (1, 32), (512, 4), (512, 32), (3, 8), (10, 11)]


class WritingTest(unittest.TestCase):
    def test_fields(self):
        for cells, bits in SIZES:
            memory = Memory(cells, bits)
            self.assertEqual((memory.cells, memory.bits), (cells, bits))

    def test_cells_in_which_nothing_was_written(self):
        for cells, bits in SIZES:
            memory = Memory(cells, bits)
            for cell in range(cells):
                self.assertEqual((memory.read(cell), memory.row_at(cell)), (0, 0))
                self.assertEqual(memory.state_at(cell), ("clean", None))

    def test_what_is_written_is_read(self):
        for cells, bits in SIZES:
            memory = Memory(cells, bits)
            values = [(cell * 7 + 5) % 2 ** bits for cell in range(cells)]
            values[-1] = 2 ** bits - 1
            for cell, value in enumerate(values):
                self.assertIsNone(memory.write(cell, value))
            for cell, value in enumerate(values):
                self.assertEqual(memory.read(cell), value)
                self.assertEqual(memory.row_at(cell), coded(bits, value))
                self.assertEqual(memory.state_at(cell), ("clean", None))

    def test_all_values_of_four_bits(self):
        memory = Memory(2, 4)
        for value in [*range(16), *range(16)[::-1]]:
            memory.write(1, value)
            self.assertEqual((memory.read(0), memory.read(1)), (0, value))

    def test_the_example(self):
        memory = Memory(2, 8)
        self.assertEqual([memory.write(1, 200), memory.flip(1, 3), memory.read(1), memory.scrub(1), memory.scrub(1),
                          memory.read(0)], [None, None, 200, True, False, 0])


class OneFlipTest(unittest.TestCase):
    def test_each_place_is_read_and_scrubbed(self):
        for cells, bits in SIZES:
            value = (2 ** bits * 5) // 9
            memory = Memory(cells, bits)
            memory.write(cells - 1, value)
            for place in range(places_of(bits)):
                with self.subTest(cells=cells, bits=bits, place=place):
                    self.assertIsNone(memory.flip(cells - 1, place))
                    row = flipped(coded(bits, value), [place])
                    self.assertEqual(memory.row_at(cells - 1), row)
                    self.assertEqual(memory.state_at(cells - 1), ("one", place))
                    self.assertEqual(memory.read(cells - 1), value)
                    self.assertEqual(memory.row_at(cells - 1), row)
                    self.assertIs(memory.scrub(cells - 1), True)
                    self.assertEqual(memory.row_at(cells - 1), coded(bits, value))
                    self.assertIs(memory.scrub(cells - 1), False)
                    self.assertEqual(memory.row_at(cells - 1), coded(bits, value))
                    self.assertEqual(memory.read(cells - 1), value)

    def test_a_place_flipped_twice(self):
        memory = Memory(1, 32)
        memory.write(0, 123456789)
        for place in range(places_of(32)):
            memory.flip(0, place)
            memory.flip(0, place)
            self.assertEqual(memory.state_at(0), ("clean", None))
            self.assertIs(memory.scrub(0), False)
            self.assertEqual(memory.read(0), 123456789)

    def test_one_flip_in_each_cell(self):
        memory = Memory(13, 8)
        for cell in range(13):
            memory.write(cell, 20 * cell)
            memory.flip(cell, cell)
        self.assertEqual([memory.read(cell) for cell in range(13)], [20 * cell for cell in range(13)])
        self.assertEqual([memory.state_at(cell) for cell in range(13)], [("one", cell) for cell in range(13)])

    def test_a_cell_is_written_anew(self):
        memory = Memory(1, 4)
        memory.flip(0, 5)
        memory.write(0, 9)
        self.assertEqual((memory.state_at(0), memory.read(0)), (("clean", None), 9))


class TwoFlipsTest(unittest.TestCase):
    def check_unmendable(self, memory, cell):
        row = memory.row_at(cell)
        for deed in (memory.read, memory.scrub):
            with self.assertRaises(Unmendable) as caught:
                deed(cell)
            self.assertEqual(caught.exception.place, cell)
            self.assertIsInstance(caught.exception, FarError)
            self.assertEqual(memory.row_at(cell), row)
        self.assertEqual(memory.state_at(cell), ("more", None))

    def test_two_places_are_told(self):
        for bits in (4, 5, 32):
            memory = Memory(3, bits)
            memory.write(2, 13)
            for one, other in itertools.combinations(range(places_of(bits)), 2):
                memory.flip(2, one)
                memory.flip(2, other)
                self.check_unmendable(memory, 2)
                memory.flip(2, other)
                self.assertEqual(memory.read(2), 13)
                memory.flip(2, one)
            self.assertEqual(memory.state_at(2), ("clean", None))

    def test_the_number_of_the_cell_is_told(self):
        memory = Memory(512, 4)
        for cell in (0, 1, 255, 511):
            memory.flip(cell, 0)
            memory.flip(cell, 7)
            self.check_unmendable(memory, cell)

    def test_what_is_written_behind_it_is_read(self):
        memory = Memory(2, 32)
        memory.flip(1, 0)
        memory.flip(1, 38)
        self.check_unmendable(memory, 1)
        memory.write(1, 77)
        self.assertEqual((memory.read(1), memory.scrub(1), memory.row_at(1)), (77, False, coded(32, 77)))

    def test_the_other_cells_are_as_they_were(self):
        memory = Memory(3, 8)
        memory.write(0, 1)
        memory.write(2, 2)
        memory.flip(1, 3)
        memory.flip(1, 4)
        self.assertEqual((memory.read(0), memory.read(2)), (1, 2))


class ScrubAllTest(unittest.TestCase):
    def test_cells_of_all_three_states(self):
        memory = Memory(8, 8)
        for cell in range(8):
            memory.write(cell, 11 * cell)
        for cell, places in ((6, [0]), (1, [12]), (3, [5, 5, 5]), (7, [1, 2]), (4, [0, 12]), (5, [9, 9])):
            for place in places:
                memory.flip(cell, place)
        rows = [memory.row_at(cell) for cell in range(8)]
        self.assertEqual(memory.scrub_all(), ([1, 3, 6], [4, 7]))
        for cell in range(8):
            expected = rows[cell] if cell in (4, 7) else coded(8, 11 * cell)
            self.assertEqual(memory.row_at(cell), expected)
        self.assertEqual(memory.scrub_all(), ([], [4, 7]))

    def test_clean_memories(self):
        for cells, bits in SIZES:
            self.assertEqual(Memory(cells, bits).scrub_all(), ([], []))

    def test_all_cells(self):
        memory = Memory(512, 4)
        for cell in range(512):
            memory.flip(cell, cell % 8)
        self.assertEqual(memory.scrub_all(), (list(range(512)), []))
        for cell in range(512):
            memory.flip(cell, 0)
            memory.flip(cell, 3)
        self.assertEqual(memory.scrub_all(), ([], list(range(512))))

    def test_lists_are_new(self):
        memory = Memory(2, 4)
        memory.flip(0, 1)
        memory.flip(0, 2)
        for part in memory.scrub_all():
            part.append(9)
        self.assertEqual(memory.scrub_all(), ([], [0]))


class TwinTest(unittest.TestCase):
    def setUp(self):
        self.memory = Memory(4, 8)
        self.memory.write(1, 100)
        self.memory.flip(2, 4)
        self.memory.flip(3, 4)
        self.memory.flip(3, 5)
        self.twin = self.memory.twin()

    def rows(self, memory):
        return [memory.row_at(cell) for cell in range(4)]

    def test_a_twin_has_the_same_rows(self):
        self.assertIsNot(self.twin, self.memory)
        self.assertEqual((self.twin.cells, self.twin.bits), (4, 8))
        self.assertEqual(self.rows(self.twin), self.rows(self.memory))
        self.assertEqual(self.twin.scrub_all(), ([2], [3]))

    def test_what_is_done_to_one_of_them(self):
        for one, other in ((self.memory, self.twin), (self.twin, self.memory)):
            before = self.rows(other)
            one.write(0, 9)
            one.flip(1, 0)
            one.scrub(2)
            one.write(3, 1)
            self.assertNotEqual(self.rows(one), before)
            self.assertEqual(self.rows(other), before)
            one.write(0, 0)

    def test_a_twin_of_a_twin(self):
        third = self.twin.twin()
        self.twin.write(1, 3)
        self.assertEqual((self.memory.read(1), self.twin.read(1), third.read(1)), (100, 3, 100))


class OffPlacesTest(unittest.TestCase):
    def test_readings_as_long_as_at_most_one_place_is_off(self):
        for seed, bits in enumerate((4, 7, 16, 32)):
            self.check_run(random.Random(seed), bits)

    def check_run(self, chance, bits):
        memory, written, off = Memory(3, bits), [0, 0, 0], [set(), set(), set()]
        for _ in range(3000):
            cell = chance.randrange(3)
            deed = chance.choice(["write", "read", "scrub", "flip", "flip"])
            if deed == "write":
                written[cell], off[cell] = chance.randrange(2 ** bits), set()
                memory.write(cell, written[cell])
            elif deed == "flip":
                place = chance.choice([*off[cell], chance.randrange(places_of(bits))])
                if len(off[cell] ^ {place}) <= 2:
                    off[cell] ^= {place}
                    memory.flip(cell, place)
            elif len(off[cell]) == 2:
                with self.assertRaises(Unmendable):
                    memory.read(cell) if deed == "read" else memory.scrub(cell)
            elif deed == "read":
                self.assertEqual(memory.read(cell), written[cell])
            else:
                self.assertIs(memory.scrub(cell), len(off[cell]) == 1)
                off[cell] = set()
            self.assertEqual(memory.row_at(cell), flipped(coded(bits, written[cell]), sorted(off[cell])))

    def test_reading_changes_no_cell(self):
        memory = Memory(4, 5)
        memory.write(0, 9)
        memory.flip(1, 0)
        rows = [memory.row_at(cell) for cell in range(4)]
        for _ in range(3):
            for cell in range(4):
                memory.read(cell)
                memory.state_at(cell)
        self.assertEqual([memory.row_at(cell) for cell in range(4)], rows)

    def test_states_are_those_of_the_words(self):
        memory = Memory(1, 5)
        for row in range(2 ** places_of(5)):
            for place in range(places_of(5)):
                if (memory.row_at(0) ^ row) >> place & 1:
                    memory.flip(0, place)
            self.assertEqual(memory.row_at(0), row)
            self.assertEqual(memory.state_at(0), state_of(5, row))


if __name__ == "__main__":
    unittest.main()
