import unittest
from itertools import permutations

from plain import odd_values
from queueloops.values import is_name, is_number, is_order, is_within, read_number


class ValuesTest(unittest.TestCase):
    def test_integers(self):
        for value in (0, 1, -1, 10 ** 39, -10 ** 39):
            self.assertIs(is_number(value), True)
        for value in odd_values() + [(0,), [0], b"0"]:
            self.assertIs(is_number(value), False)

    def test_integers_from_low_to_high(self):
        self.assertEqual([is_within(value, 2, 4) for value in (1, 2, 3, 4, 5)], [False, True, True, True, False])
        for value in odd_values():
            self.assertIs(is_within(value, 0, 400), False)

    def test_orders(self):
        for many in range(5):
            for order in permutations(range(many)):
                self.assertIs(is_order(order, many), True)
                self.assertIs(is_order(list(order), many), False)
                self.assertIs(is_order(order, many + 1), False)
                self.assertIs(is_order(order + (many,), many), False)
        for value in odd_values() + [(0, 0), (1, 1), (1, 2), (-1, 0), (False, 1), (0, True), (0, None), (0, 1.0)]:
            self.assertIs(is_order(value, 2), False)

    def test_names(self):
        for value in ("a", "z", "az", "abcdefgh", "zzzzzzzz", "queue", "stage"):
            self.assertIs(is_name(value), True)
        words = ["", "A", "aB", "a b", " a", "a ", "a\n", "\na", "a1", "1", "a_", "a-b", "abcdefghi", "a" * 1000, "`", "{"]
        for value in words + [0, 1, ("a",), ["a"], b"a"] + [value for value in odd_values() if value != "queue"]:
            self.assertIs(is_name(value), False)

    def test_numbers_in_texts(self):
        for number in (0, 1, 9, 10, 100, 1000000, 999999999):
            self.assertEqual(read_number(str(number)), number)

    def test_what_is_no_number_in_a_text(self):
        words = ["", " ", "00", "01", "-1", "-0", "+1", "1.0", "1_0", "0x1", "1e1", " 1", "1 ", "one", "True",
                 "1000000000", "0000000001", "9" * 9000]
        for word in words:
            self.assertIsNone(read_number(word))


if __name__ == "__main__":
    unittest.main()
