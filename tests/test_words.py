"""Points [13], [14] and [15]: coded words."""

import itertools
import unittest

from farword.words import (check_places, coded, count_rows, data_places, differing, flipped, mended, places_of, spot_of,
                           state_of, value_in)

ALL_BITS = range(4, 33)


def digits_of(row, places):
    return [int(sign) for sign in bin(row)[2:].zfill(places)[::-1]]


def some_values(bits):
    """Some values of so many bits, the least and the greatest one among them."""
    top = 2 ** bits - 1
    return sorted({0, 1, top, top - 1, top // 3, top // 7, 2 ** (bits - 1), (top * 5) // 9})


def is_word(bits, row):
    """Whether the row is a word, straight by point [14]."""
    digits = digits_of(row, places_of(bits))
    spot = 0
    for place, digit in enumerate(digits):
        if digit == 1:
            spot ^= place
    return spot == 0 and sum(digits) % 2 == 0


class PlacesTest(unittest.TestCase):
    def test_numbers_of_places(self):
        for bits in ALL_BITS:
            least = min(r for r in range(10) if 2 ** r >= bits + r + 1)
            self.assertEqual(places_of(bits), bits + least + 1)
        self.assertEqual([places_of(bits) for bits in (4, 5, 11, 12, 26, 27, 32)], [8, 10, 16, 18, 32, 34, 39])

    def test_check_places_and_data_places(self):
        self.assertEqual(check_places(4), [0, 1, 2, 4])
        self.assertEqual(data_places(4), [3, 5, 6, 7])
        self.assertEqual(check_places(32), [0, 1, 2, 4, 8, 16, 32])
        for bits in ALL_BITS:
            powers = [0] + [2 ** k for k in range(7) if 2 ** k < places_of(bits)]
            self.assertEqual(check_places(bits), powers)
            self.assertEqual(data_places(bits), [place for place in range(places_of(bits)) if place not in powers])
            self.assertEqual(len(data_places(bits)), bits)

    def test_lists_are_new(self):
        for ask in (check_places, data_places):
            ask(4).clear()
            self.assertEqual(len(ask(4)), 4)


class WordsTest(unittest.TestCase):
    def test_each_value_has_just_one_word(self):
        for bits in (4, 5, 6):
            found = {}
            for row in range(2 ** places_of(bits)):
                if is_word(bits, row):
                    digits = digits_of(row, places_of(bits))
                    value = sum(digits[place] << at for at, place in enumerate(data_places(bits)))
                    found.setdefault(value, []).append(row)
            self.assertEqual(sorted(found), list(range(2 ** bits)))
            for value, rows in found.items():
                self.assertEqual(rows, [coded(bits, value)])

    def test_words_of_all_numbers_of_bits(self):
        for bits in ALL_BITS:
            for value in some_values(bits):
                with self.subTest(bits=bits, value=value):
                    word = coded(bits, value)
                    self.assertTrue(0 <= word < 2 ** places_of(bits))
                    self.assertTrue(is_word(bits, word))
                    self.assertEqual(value_in(bits, word), value)

    def test_data_bits_ascend(self):
        for bits in ALL_BITS:
            for at, place in enumerate(data_places(bits)):
                self.assertEqual(value_in(bits, 1 << place), 1 << at)
                self.assertEqual(coded(bits, 1 << at) >> place & 1, 1)
            for place in check_places(bits):
                self.assertEqual(value_in(bits, 1 << place), 0)

    def test_the_value_is_told_as_it_stands(self):
        word = coded(8, 200)
        self.assertEqual(value_in(8, flipped(word, [3])), 201)
        self.assertEqual(value_in(8, flipped(word, [0, 1, 2, 4, 8])), 200)
        self.assertEqual(value_in(4, 2 ** 8 - 1), 15)

    def test_spots(self):
        for bits in ALL_BITS:
            self.assertEqual(spot_of(bits, 0), 0)
            for place in range(places_of(bits)):
                self.assertEqual(spot_of(bits, 1 << place), place)
        self.assertEqual(spot_of(4, flipped(0, [3, 5])), 6)
        self.assertEqual(spot_of(4, flipped(0, [0, 7, 1])), 6)
        self.assertEqual(spot_of(32, flipped(0, [38, 32, 6])), 0)

    def test_the_example(self):
        self.assertEqual([places_of(4), coded(4, 5), state_of(4, flipped(coded(4, 5), [6])),
                          state_of(4, flipped(coded(4, 5), [6, 0]))], [8, 90, ("one", 6), ("more", None)])


class FlipsTest(unittest.TestCase):
    def test_flipping(self):
        self.assertEqual(flipped(0, []), 0)
        self.assertEqual(flipped(5, []), 5)
        self.assertEqual(flipped(0, [0, 3]), 9)
        self.assertEqual(flipped(9, [3]), 1)
        self.assertEqual(flipped(9, [3, 3]), 9)
        self.assertEqual(flipped(9, [3, 0, 3, 3]), 0)
        places = [2, 2, 1]
        self.assertEqual(flipped(0, places), 2)
        self.assertEqual(places, [2, 2, 1])

    def test_differing(self):
        self.assertEqual(differing(0, 0), [])
        self.assertEqual(differing(9, 9), [])
        self.assertEqual(differing(0, 9), [0, 3])
        self.assertEqual(differing(9, 0), [0, 3])
        self.assertEqual(differing(2 ** 38, 1), [0, 38])
        self.assertEqual(differing(flipped(90, [7, 2, 4]), 90), [2, 4, 7])

    def test_words_differ_in_four_places_or_more(self):
        for bits in (4, 5, 6):
            found = [coded(bits, value) for value in range(2 ** bits)]
            least = min(len(differing(one, other)) for one, other in itertools.combinations(found, 2))
            self.assertEqual(least, 4)


class StatesTest(unittest.TestCase):
    def test_each_row_by_its_distance_from_words(self):
        for bits in (4, 5):
            places = places_of(bits)
            found = [row for row in range(2 ** places) if is_word(bits, row)]
            for row in range(2 ** places):
                near = {bin(row ^ word).count("1"): word for word in found}
                if 0 in near:
                    self.assertEqual((state_of(bits, row), mended(bits, row)), (("clean", None), row))
                elif 1 in near:
                    place = (row ^ near[1]).bit_length() - 1
                    self.assertEqual((state_of(bits, row), mended(bits, row)), (("one", place), near[1]))
                else:
                    self.assertEqual((state_of(bits, row), mended(bits, row)), (("more", None), None))

    def test_no_flip_and_one_flip_at_each_place(self):
        for bits in ALL_BITS:
            for value in some_values(bits):
                word = coded(bits, value)
                self.assertEqual((state_of(bits, word), mended(bits, word)), (("clean", None), word))
                for place in range(places_of(bits)):
                    row = flipped(word, [place])
                    self.assertEqual((state_of(bits, row), mended(bits, row)), (("one", place), word))

    def test_two_flips_are_told(self):
        for bits in ALL_BITS:
            for value in some_values(bits)[2:5]:
                word = coded(bits, value)
                for pair in itertools.combinations(range(places_of(bits)), 2):
                    row = flipped(word, pair)
                    self.assertEqual((state_of(bits, row), mended(bits, row)), (("more", None), None))

    def test_three_flips_are_told_or_look_like_one(self):
        for bits in ALL_BITS:
            word = coded(bits, some_values(bits)[3])
            places = places_of(bits)
            for some in itertools.combinations(range(places), 3):
                row = flipped(word, some)
                place = some[0] ^ some[1] ^ some[2]
                if place < places:
                    self.assertEqual(state_of(bits, row), ("one", place))
                    self.assertNotIn(place, some)
                else:
                    self.assertEqual(state_of(bits, row), ("more", None))
        for bits in (4, 11, 26, 5, 12, 32):
            self.check_mending_of_three(bits)

    def check_mending_of_three(self, bits):
        word = coded(bits, some_values(bits)[3])
        kinds = []
        for some in itertools.combinations(range(places_of(bits)), 3):
            row = flipped(word, some)
            found = mended(bits, row)
            kinds.append(state_of(bits, row)[0])
            if kinds[-1] == "more":
                self.assertIsNone(found)
            else:
                self.assertTrue(is_word(bits, found))
                self.assertEqual(len(differing(found, word)), 4)
        # With 4, 11 and 26 bits each spot is the number of a place.
        self.assertEqual("more" in kinds, bits not in (4, 11, 26))


class CountsTest(unittest.TestCase):
    def test_counts_of_all_rows(self):
        for bits in (4, 5, 6, 7):
            states = [state_of(bits, row)[0] for row in range(2 ** places_of(bits))]
            self.assertEqual(count_rows(bits), tuple(states.count(state) for state in ("clean", "one", "more")))

    def test_counts_of_all_numbers_of_bits(self):
        self.assertEqual(count_rows(8), (256, 3328, 4608))
        for bits in ALL_BITS:
            clean, one, more = count_rows(bits)
            self.assertEqual((clean, one), (2 ** bits, 2 ** bits * places_of(bits)))
            self.assertEqual(clean + one + more, 2 ** places_of(bits))


if __name__ == "__main__":
    unittest.main()
