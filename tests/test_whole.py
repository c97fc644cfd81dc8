"""Errors and whole numbers: the headings `errors` and `whole`, point 1.1."""

import random
import unittest
from fractions import Fraction

from brute import WRONG, deep
from probeweb.errors import Fault, Malformed, NoText, Refused
from probeweb.whole import (
    greatest_common, integer_text, is_integer, is_ratio, least_common, raised_to, ratio, ratio_below, ratio_less,
    ratio_over, ratio_product, ratio_sum, ratio_text, read_integer, rest_of_power)


def fractions_of(rng, many):
    return [ratio(rng.randint(-9, 9), rng.randint(1, 9)) for _ in range(many)]


class Errors(unittest.TestCase):
    def test_classes(self):
        self.assertTrue(issubclass(Fault, ValueError))
        for one in (Malformed, Refused, NoText):
            self.assertTrue(issubclass(one, Fault))
            for other in (Malformed, Refused, NoText):
                self.assertEqual(issubclass(one, other), one is other)

    def test_attributes(self):
        self.assertEqual(Refused("large").reason, "large")
        self.assertEqual(NoText(3).at, 3)
        self.assertEqual(str(Malformed("no structure")), "no structure")

    def test_all_are_caught_as_faults(self):
        for error in (Malformed("a"), Refused("many"), NoText(0)):
            with self.assertRaises(Fault):
                raise error


class Integers(unittest.TestCase):
    def test_is_integer(self):
        for value in (0, 1, -1, 10 ** 5000):
            self.assertIs(is_integer(value), True)
        for value in (True, False, None, "1", (1,), [1], (), deep(60), ValueError("1")):
            self.assertIs(is_integer(value), False)

    def test_read_integer(self):
        for text, number in (("0", 0), ("7", 7), ("-7", -7), ("10", 10), ("-100", -100), ("1" * 20, int("1" * 20))):
            self.assertEqual(read_integer(text), number)

    def test_read_long(self):
        for digits in (1999, 2000, 2001, 4000, 4300, 4301, 6000):
            number = 10 ** digits - 7
            text = "9" * (digits - 1) + "3"
            self.assertEqual(read_integer(text), number)
            self.assertEqual(read_integer("-" + text), -number)
            self.assertEqual(read_integer("1" + "0" * (digits - 1)), 10 ** (digits - 1))
            self.assertEqual(integer_text(number), text)
            self.assertEqual(integer_text(-10 ** digits), "-1" + "0" * digits)

    def test_no_text(self):
        for value in ("", "-", "-0", "+1", "00", "01", "-01", "000", " 1", "1 ", "1\n", "1_0", "0x1", "1.0", "1/2",
                      "--1", "1-", "\u0661", "\u00b2", "e", b"1", 1, "0" * 4000, "-" * 3) + WRONG:
            if value == "0" and isinstance(value, str):
                continue
            with self.assertRaises(NoText) as caught:
                read_integer(value)
            self.assertEqual(caught.exception.at, 0)

    def test_raised_to(self):
        for a in range(-4, 5):
            for e in range(9):
                self.assertEqual(raised_to(a, e), a ** e)
        self.assertEqual(raised_to(0, 0), 1)
        self.assertEqual(raised_to(10, 3999), 10 ** 3999)
        self.assertEqual(raised_to(1, 10 ** 900), 1)
        self.assertEqual(raised_to(-1, 10 ** 900 + 1), -1)

    def test_rest_of_power(self):
        for a in range(-3, 6):
            for e in range(7):
                for modulus in range(1, 6):
                    self.assertEqual(rest_of_power(a, e, modulus), a ** e % modulus)

    def test_common(self):
        for a in range(-12, 13):
            for b in range(-12, 13):
                divisors = [d for d in range(1, 13) if a % d == 0 and b % d == 0]
                self.assertEqual(greatest_common(a, b), 0 if a == 0 and b == 0 else max(divisors))
                if a != 0 and b != 0:
                    multiples = [m for m in range(1, 145) if m % a == 0 and m % b == 0]
                    self.assertEqual(least_common(a, b), min(multiples))
        self.assertEqual(greatest_common(0, 0), 0)
        self.assertEqual(greatest_common(0, -5), 5)


class Fractions(unittest.TestCase):
    def test_ratio(self):
        for n in range(-12, 13):
            for d in range(-12, 13):
                if d != 0:
                    told = Fraction(n, d)
                    self.assertEqual(ratio(n, d), (told.numerator, told.denominator))
        self.assertEqual(ratio(0, -5), (0, 1))
        self.assertEqual(ratio(6, -4), (-3, 2))

    def test_ratio_malformed(self):
        self.assertRaises(Malformed, ratio, 1, 0)
        self.assertRaises(Malformed, ratio, 0, 0)
        for value in WRONG:
            if not is_integer(value):
                self.assertRaises(Malformed, ratio, value, 1)
                self.assertRaises(Malformed, ratio, 1, value)
                self.assertRaises(Malformed, ratio, value, value)

    def test_is_ratio(self):
        for value in ((0, 1), (1, 1), (-3, 2), (10 ** 60, 10 ** 60 + 1)):
            self.assertIs(is_ratio(value), True)
        for value in ((0, 2), (2, 4), (1, 0), (1, -1), (-1, -2), (0, 0), (True, 1), (1, True), [1, 2], (1, 2, 3), (1,),
                      ("1", 2), (1, "2"), ((1, 2), 1)) + WRONG:
            if value != (0, 1):
                self.assertIs(is_ratio(value), False)

    def test_reckoning(self):
        rng = random.Random(1)
        for a, b in zip(fractions_of(rng, 300), fractions_of(rng, 300)):
            x, y = Fraction(*a), Fraction(*b)
            for made, told in ((ratio_sum(a, b), x + y), (ratio_less(a, b), x - y), (ratio_product(a, b), x * y)):
                self.assertEqual(made, (told.numerator, told.denominator))
                self.assertTrue(is_ratio(made))
            self.assertIs(ratio_below(a, b), x < y)
            self.assertEqual(ratio_text(a), str(x))
            if y != 0:
                self.assertEqual(Fraction(*ratio_over(a, b)), x / y)
                self.assertTrue(is_ratio(ratio_over(a, b)))

    def test_over_zero(self):
        self.assertRaises(Malformed, ratio_over, (1, 2), (0, 1))
        self.assertRaises(Malformed, ratio_over, (0, 1), (0, 1))
        self.assertEqual(ratio_over((0, 1), (-1, 2)), (0, 1))
        self.assertEqual(ratio_over((1, 2), (-1, 3)), (-3, 2))

    def test_text(self):
        self.assertEqual(ratio_text((0, 1)), "0")
        self.assertEqual(ratio_text((-3, 2)), "-3/2")
        self.assertEqual(ratio_text((-7, 1)), "-7")
        self.assertEqual(ratio_text((10 ** 4999, 10 ** 4400 + 1)), "1" + "0" * 4999 + "/1" + "0" * 4399 + "1")

    def test_document(self):
        self.assertEqual((ratio(6, -4), ratio_less((1, 2), (1, 3)), ratio_text((-3, 2))), ((-3, 2), (1, 6), "-3/2"))


if __name__ == "__main__":
    unittest.main()
