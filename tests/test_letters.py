"""Point [40]: letters and their written forms."""

import itertools
import random
import unittest

from farword.letters import format_letter, read_letter

GREATEST = 10 ** 18 - 1
NUMBERS = (0, 1, 9, 10, 123456789, 10 ** 17, GREATEST)
ORDERS = (("do", "go"), ("do", "do"), ("run", "plan"), ("run", "stop"), ("stop",), ("do", "abcdefghij12"), ("run", "0"))
LOTS = ((), ("a",), ("cam", "heat"), ("0", "1", "a", "b"), tuple(f"h{k}" for k in range(9)))

FORMS = {
    "order 0 do go": ("order", 0, ("do", "go")),
    "order 12 run plan": ("order", 12, ("run", "plan")),
    "order 7 stop": ("order", 7, ("stop",)),
    "frame 0 0 safe": ("frame", 0, 0, "safe", ()),
    "frame 15 3 work cam": ("frame", 15, 3, "work", ("cam",)),
    "frame 3 15 work cam heat": ("frame", 3, 15, "work", ("cam", "heat")),
    "order 999999999999999999 do go": ("order", GREATEST, ("do", "go")),
    "frame 999999999999999999 100000000000000000 m": ("frame", GREATEST, 10 ** 17, "m", ()),
}

UNREADABLE = [
    "", " ", "order", "frame", "order ", "frame ", "stop", "0 stop", "order stop", "order 0", "order 0 ", "order 0 go",
    "order 0 do", "order 0 do ", "order 0 run", "order 0 run ", "order 0 stop ", "order 0 stop go", "order 0 wait",
    "order 0 do go ", " order 0 do go", "order  0 do go", "order 0  do go", "order 0 do  go", "order 0 do go go",
    "order 00 do go", "order 01 do go", "order -1 do go", "order +1 do go", "order 1.0 do go", "order x do go",
    "order 1000000000000000000 do go", "order 0000000000000000001 do go", "order 1x do go", "order - do go",
    "order 0 do Go", "order 0 do go!", "order 0 do -", "order 0 do abcdefghij123", "order 0 run p-1", "Order 0 do go",
    "order 0 Do go", "order 0 DO go", "order 0 stop\n", "\norder 0 stop", "order 0\nstop", "order 0 do g\no",
    "order 0 do a,b", "orders 0 stop", "order,0,stop",
    "frame 0", "frame 0 0", "frame 0 0 ", "frame 0 safe", "frame safe 0 0", "frame 0 0 safe ", "frame  0 0 safe",
    "frame 0  0 safe", "frame 0 0  safe", "frame 0 0 safe  cam", "frame 0 0 safe cam ", " frame 0 0 safe",
    "frame 0 0 safe heat cam", "frame 0 0 safe cam cam", "frame 0 0 safe cam,heat", "frame 0 0 safe -", "frame 0 0 -",
    "frame 00 0 safe", "frame 0 00 safe", "frame 01 0 safe", "frame 0 01 safe", "frame -1 0 safe", "frame 0 -1 safe",
    "frame 1000000000000000000 0 safe", "frame 0 1000000000000000000 safe", "frame 0 0 Safe", "frame 0 0 safe Cam",
    "frame 0 0 abcdefghij123", "frame 0 0 safe abcdefghij123", "frame 0 0 safe c-m", "frame 0 x safe", "frame x 0 safe",
    "Frame 0 0 safe", "frame 0 0 safe\n", "frame 0 0 safe cam\nheat", "frame 0 0 safe cam 10 2", "frames 0 0 safe",
    "letter 0 0 safe", "frame 0 0 safe 9 10 a",
]


class FormsTest(unittest.TestCase):
    def test_forms(self):
        for text, letter in FORMS.items():
            with self.subTest(text=text):
                self.assertEqual(format_letter(letter), text)
                self.assertEqual(read_letter(text), letter)

    def test_each_letter_that_is_written_is_read_again(self):
        texts = {}
        for number, order in itertools.product(NUMBERS, ORDERS):
            letter = ("order", number, order)
            texts[format_letter(letter)] = letter
        for tick, count, mode, lot in itertools.product(NUMBERS, NUMBERS, ("safe", "0", "frame", "order"), LOTS):
            letter = ("frame", tick, count, mode, lot)
            texts[format_letter(letter)] = letter
        self.assertEqual(len(texts), len(NUMBERS) * len(ORDERS) + len(NUMBERS) ** 2 * 4 * len(LOTS))
        for text, letter in texts.items():
            self.assertEqual(read_letter(text), letter)

    def test_the_kinds_of_what_is_read(self):
        self.assertIsInstance(read_letter("order 0 do go"), tuple)
        self.assertIsInstance(read_letter("order 0 do go")[2], tuple)
        self.assertIsInstance(read_letter("frame 1 2 m a b")[4], tuple)
        self.assertIs(type(read_letter("frame 1 2 m a b")[1]), int)

    def test_lots_of_many_holds(self):
        # Whatever a book has: a lot of a letter may have more names than a book has holds.
        names = tuple(sorted(f"{sign}{k}" for sign in "abc" for k in range(10)))
        letter = ("frame", 1, 0, "m", names)
        self.assertEqual(read_letter(format_letter(letter)), letter)


class UnreadableTest(unittest.TestCase):
    def test_texts(self):
        for text in UNREADABLE:
            with self.subTest(text=text):
                self.assertIsNone(read_letter(text))

    def test_numbers_of_many_digits(self):
        for digits in range(1, 25):
            number = int("9" * digits)
            for text, letter in ((f"order {number} stop", ("order", number, ("stop",))),
                                 (f"frame {number} 0 m", ("frame", number, 0, "m", ())),
                                 (f"frame 0 {number} m", ("frame", 0, number, "m", ()))):
                self.assertEqual(read_letter(text), letter if digits <= 18 else None)

    def test_whatever_is_read_is_written_so(self):
        chance = random.Random(1)
        words = ["order", "frame", "0", "1", "01", "do", "run", "stop", "a", "b", "A", "", "12", "-"]
        read = 0
        for _ in range(20000):
            text = " ".join(chance.choice(words) for _ in range(chance.randint(0, 6)))
            letter = read_letter(text)
            if letter is not None:
                read += 1
                self.assertEqual(format_letter(letter), text)
        self.assertGreater(read, 20)


if __name__ == "__main__":
    unittest.main()
