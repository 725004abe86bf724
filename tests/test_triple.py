"""Points [18] and [19]: three copies."""

import itertools
import math
import unittest

from farword.triple import by_bits, by_words, is_sure, odd_copies, ways_of, word_outcome


def digit_by_digit(copies, bits):
    """The value by bits, each digit counted by itself."""
    return sum(1 << place for place in range(bits) if sum(copy >> place & 1 for copy in copies) >= 2)


def counted_ways(bits, flips):
    """The ways of so many flips, each of them looked at, by copies of the value 0."""
    counts = {"all": 0, "sure": 0, "right": 0, "wrong": 0, "none": 0}
    for places in itertools.combinations(range(3 * bits), flips):
        copies = [sum(1 << place % bits for place in places if place // bits == copy) for copy in range(3)]
        counts["all"] += 1
        counts["sure"] += digit_by_digit(copies, bits) == 0
        same = [copy for copy in copies if copies.count(copy) >= 2]
        counts["none" if not same else "right" if same[0] == 0 else "wrong"] += 1
    return tuple(counts.values())


class ValuesTest(unittest.TestCase):
    def test_all_copies_of_few_bits(self):
        for bits in (1, 2, 3):
            for copies in itertools.product(range(2 ** bits), repeat=3):
                copies = list(copies)
                with self.subTest(bits=bits, copies=copies):
                    value = digit_by_digit(copies, bits)
                    self.assertEqual(by_bits(copies), value)
                    self.assertEqual(odd_copies(copies), [at for at in range(3) if copies[at] != value])
                    same = [copy for copy in copies if copies.count(copy) >= 2]
                    self.assertEqual(by_words(copies), same[0] if same else None)

    def test_copies_of_32_bits(self):
        top = 2 ** 32 - 1
        self.assertEqual([by_bits([top, 0, top]), by_bits([top, 0, 0]), by_bits([top, top, top])], [top, 0, top])
        self.assertEqual([by_words([top, 0, top]), by_words([0, top, 0]), by_words([top, 0, 1])], [top, 0, None])
        self.assertEqual(odd_copies([top, 0, top]), [1])
        copies = [0xF0F0F0F0, 0xFF00FF00, 0xCCCCCCCC]
        self.assertEqual(by_bits(copies), digit_by_digit(copies, 32))
        self.assertEqual(odd_copies(copies), [0, 1, 2])

    def test_the_value_0_is_a_value(self):
        self.assertEqual((by_words([0, 0, 5]), by_words([0, 5, 0]), by_words([5, 0, 0])), (0, 0, 0))

    def test_the_examples(self):
        self.assertEqual([by_bits([12, 10, 9]), by_words([12, 10, 9]), by_words([12, 9, 12]), ways_of(8, 2)],
                         [8, None, 12, (276, 252, 84, 24, 168)])

    def test_arguments_stay_and_lists_are_new(self):
        copies = [3, 5, 6]
        for ask in (by_bits, by_words, odd_copies, is_sure, word_outcome):
            ask(copies)
            self.assertEqual(copies, [3, 5, 6])
        odd_copies(copies).clear()
        self.assertEqual(odd_copies(copies), [0, 1, 2])


class FlipsTest(unittest.TestCase):
    def test_all_flips_of_few_bits(self):
        for bits in (1, 2, 3):
            for flips in itertools.product(range(2 ** bits), repeat=3):
                with self.subTest(bits=bits, flips=flips):
                    self.check_flips(bits, list(flips))

    def check_flips(self, bits, flips):
        sure, outcome = is_sure(flips), word_outcome(flips)
        self.assertIs(sure, all(one & other == 0 for one, other in itertools.combinations(flips, 2)))
        for value in range(2 ** bits):
            copies = [value ^ flip for flip in flips]
            self.assertIs(by_bits(copies) == value, sure)
            told = by_words(copies)
            self.assertEqual(outcome, "none" if told is None else "right" if told == value else "wrong")
        if outcome == "right":
            self.assertIs(sure, True)

    def test_no_flips(self):
        self.assertEqual((is_sure([0, 0, 0]), word_outcome([0, 0, 0])), (True, "right"))

    def test_one_copy_alone(self):
        for flip in (1, 7, 2 ** 32 - 1):
            for flips in ([flip, 0, 0], [0, flip, 0], [0, 0, flip]):
                self.assertEqual((is_sure(flips), word_outcome(flips)), (True, "right"))

    def test_the_same_flips_in_two_copies(self):
        for flip in (1, 6, 2 ** 31, 2 ** 32 - 1):
            for flips in ([flip, flip, 0], [flip, 0, flip], [0, flip, flip], [flip, flip, flip], [flip, 2 ** 30, flip]):
                self.assertEqual((is_sure(flips), word_outcome(flips)), (False, "wrong"))

    def test_flips_at_other_places(self):
        for flips in ([1, 2, 0], [0, 4, 8], [16, 0, 1], [1, 2, 4]):
            self.assertEqual((is_sure(flips), word_outcome(flips)), (True, "none"))
        self.assertEqual((is_sure([3, 1, 0]), word_outcome([3, 1, 0])), (False, "none"))


class WaysTest(unittest.TestCase):
    def test_ways_that_are_counted_one_by_one(self):
        for bits in (1, 2, 3, 4, 5):
            for flips in range(3 * bits + 1):
                with self.subTest(bits=bits, flips=flips):
                    self.assertEqual(ways_of(bits, flips), counted_ways(bits, flips))

    def test_few_flips_of_eight_bits(self):
        for flips in (0, 1, 2, 3, 4):
            self.assertEqual(ways_of(8, flips), counted_ways(8, flips))

    def test_all_numbers_of_bits_and_flips(self):
        for bits in range(1, 33):
            for flips in range(3 * bits + 1):
                ways, sure, right, wrong, none = ways_of(bits, flips)
                self.assertEqual(ways, math.comb(3 * bits, flips))
                self.assertEqual(right + wrong + none, ways)
                self.assertEqual(sure, math.comb(bits, flips) * 3 ** flips)
                self.assertTrue(min(sure, right, wrong, none) >= 0 and right <= sure)

    def test_the_edges(self):
        for bits in (1, 8, 32):
            self.assertEqual(ways_of(bits, 0), (1, 1, 1, 0, 0))
            self.assertEqual(ways_of(bits, 1), (3 * bits, 3 * bits, 3 * bits, 0, 0))
            self.assertEqual(ways_of(bits, 3 * bits), (1, 0, 0, 1, 0))
        self.assertEqual(ways_of(1, 2), (3, 0, 0, 3, 0))


if __name__ == "__main__":
    unittest.main()
