"""Point [9]: orders and inputs."""

import copy
import unittest

from farword.books import check_inputs, is_input, is_order
from farword.errors import FarError, InvalidInput
from tests.samples import FULL, PLAIN, SMALLEST, made

ORDERS = [("do", "go"), ("do", "off"), ("do", "warm"), ("run", "plan"), ("run", "again"), ("stop",)]
NO_ORDERS = [(), ("do",), ("run",), ("stop", "go"), ("stop", ""), ("do", "plan"), ("run", "go"), ("do", "hop"),
             ("run", "hop"), ("do", "go", "go"), ("run", "plan", ""), ("go",), ("", "go"), ("", "plan"), ("wait",),
             ("stop", "plan"), ("Do", "go"), ("do", ""), ("run", "safe"), ("do", "low"), ("stop", "stop"),
             ("hop", "go"), ("hop", "plan")]
LOTS = [(), ("cold",), ("low",), ("cold", "low")]
NO_LOTS = [("low", "cold"), ("low", "low"), ("hot",), ("cold", "hot"), ("",), ("cold", ""), ("safe",), ("go",),
           ("Low",)]


class OrdersTest(unittest.TestCase):
    def test_orders(self):
        for order in ORDERS:
            with self.subTest(order=order):
                self.assertIs(is_order(made(PLAIN), order), True)

    def test_what_is_no_order(self):
        for order in NO_ORDERS:
            with self.subTest(order=order):
                self.assertIs(is_order(made(PLAIN), order), False)

    def test_orders_of_a_book_without_commands(self):
        self.assertEqual([is_order(made(SMALLEST), order) for order in ORDERS], [False] * 5 + [True])


class InputsTest(unittest.TestCase):
    def test_inputs(self):
        for lot in LOTS:
            for order in [None, *ORDERS]:
                with self.subTest(lot=lot, order=order):
                    self.assertIs(is_input(made(PLAIN), (lot, order)), True)

    def test_what_is_no_input(self):
        for lot in LOTS:
            for order in NO_ORDERS:
                with self.subTest(lot=lot, order=order):
                    self.assertIs(is_input(made(PLAIN), (lot, order)), False)
        for lot in NO_LOTS:
            for order in (None, ("stop",), ("do", "hop")):
                with self.subTest(lot=lot, order=order):
                    self.assertIs(is_input(made(PLAIN), (lot, order)), False)

    def test_another_number_of_parts(self):
        for told in ((), ((),), ((), None, None)):
            self.assertIs(is_input(made(PLAIN), told), False)

    def test_all_alarms_of_a_book(self):
        names = tuple(part[0] for part in FULL["alarms"])
        self.assertIs(is_input(made(FULL), (names, None)), True)
        self.assertIs(is_input(made(SMALLEST), (names, None)), False)
        self.assertIs(is_input(made(SMALLEST), ((), None)), True)


class CheckInputsTest(unittest.TestCase):
    def test_lists_of_inputs(self):
        told = [(lot, order) for lot in LOTS for order in [None, *ORDERS]]
        before = copy.deepcopy(told)
        self.assertIsNone(check_inputs(made(PLAIN), told))
        self.assertIsNone(check_inputs(made(PLAIN), []))
        self.assertEqual(told, before)

    def test_lists_with_something_else(self):
        good = ((), ("do", "go"))
        for bad in (((), ("do", "hop")), (("hot",), None), (("low", "cold"), None), ((), ())):
            for told in ([bad], [bad, good], [good, bad], [good, good, bad, good], [bad, bad]):
                with self.subTest(told=told):
                    before = copy.deepcopy(told)
                    with self.assertRaises(InvalidInput) as caught:
                        check_inputs(made(PLAIN), told)
                    self.assertIsInstance(caught.exception, FarError)
                    self.assertEqual(told, before)


if __name__ == "__main__":
    unittest.main()
