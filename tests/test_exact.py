"""Points 1.1 and 1.2, and what 0.3 says of whole numbers."""

import inspect
import math
import unittest
from fractions import Fraction

from pageloom.errors import NoNumber
from pageloom.exact import (in_units, is_less, is_number, is_within, minus, number, over, plus, read_number, text_of,
                            times)

MOST = 10 ** 40 - 1
MORE = 10 ** 40

NO_NUMBERS = (
    0, 1, -1, True, False, None, "", "1", "1:2", (), [], [1, 2], [3, 1], ("1", "2"), (1,), (1, 2, 3),
    (True, 1), (1, True), (False, 1), (True, True), (True, 2), (None, 1), (1, None), ("1", 1), (1, "1"),
    ((1, 1), 1), (1, (1, 1)), ([1], 1), (1, [1]), ((((((1,),),),),), 1),
    (1, 0), (0, 0), (1, -1), (1, -2), (-1, -2), (0, -1), (0, 2), (2, 4), (-2, 4), (6, 3), (2, 2),
    (MORE, 1), (-MORE, 1), (1, MORE), (MORE, MORE - 1), (10 ** 5000, 1), (1, 10 ** 5000),
)
NUMBERS = (
    (3, 1), (-1, 2), (0, 1), (1, 1), (-7, 1), (22, 7), (-9, 10),
    (MOST, 1), (-MOST, 1), (1, MOST), (-1, MOST), (MOST, MOST - 1), (10 ** 39, 7),
)


class IsNumber(unittest.TestCase):
    def test_numbers(self):
        for thing in NUMBERS:
            with self.subTest(thing):
                self.assertIs(is_number(thing), True)

    def test_all_else(self):
        for at, thing in enumerate(NO_NUMBERS):
            with self.subTest(at=at):
                self.assertIs(is_number(thing), False)

    def test_small_ones_by_their_definition(self):
        for top in range(-12, 13):
            for below in range(-12, 13):
                told = below > 0 and math.gcd(top, below) == 1
                self.assertIs(is_number((top, below)), told, (top, below))


class Number(unittest.TestCase):
    def test_examples(self):
        self.assertEqual(number(3), (3, 1))
        self.assertEqual(number(3, 1), (3, 1))
        self.assertEqual(number(-1, 2), (-1, 2))
        self.assertEqual(number(0, 1), (0, 1))

    def test_lowest_terms_and_the_sign_on_top(self):
        for top in range(-30, 31):
            for below in range(-30, 31):
                if below == 0:
                    continue
                told = Fraction(top, below)
                made = number(top, below)
                self.assertEqual(made, (told.numerator, told.denominator))
                self.assertTrue(is_number(made))

    def test_zero_below(self):
        for top in (0, 1, -1, MORE):
            self.assertRaises(NoNumber, number, top, 0)

    def test_forty_figures(self):
        self.assertEqual(number(MOST), (MOST, 1))
        self.assertEqual(number(-MOST), (-MOST, 1))
        self.assertEqual(number(1, MOST), (1, MOST))
        self.assertEqual(number(1, -MOST), (-1, MOST))

    def test_one_figure_more(self):
        for top, below in ((MORE, 1), (-MORE, 1), (1, MORE), (1, -MORE), (MORE, 3), (3, MORE)):
            with self.subTest(top=top, below=below):
                self.assertRaises(NoNumber, number, top, below)

    def test_more_figures_only_ahead_of_lowest_terms(self):
        self.assertEqual(number(MORE, 10), (10 ** 39, 1))
        self.assertEqual(number(10, MORE), (1, 10 ** 39))
        self.assertEqual(number(10 ** 5000, 10 ** 4999), (10, 1))
        self.assertEqual(number(0, MORE), (0, 1))

    def test_more_figures_also_in_lowest_terms(self):
        self.assertRaises(NoNumber, number, MORE * 2, 2)
        self.assertRaises(NoNumber, number, 2, MORE * 2)

    def test_what_is_not_whole(self):
        for thing in (True, False, None, "1", "", (1, 1), [1], (), []):
            with self.subTest(thing):
                self.assertRaises(NoNumber, number, thing)
                self.assertRaises(NoNumber, number, thing, 1)
                self.assertRaises(NoNumber, number, 1, thing)

    def test_below_may_be_left_out(self):
        self.assertEqual([kept.default for kept in inspect.signature(number).parameters.values()],
                         [inspect.Parameter.empty, 1])


class TextOf(unittest.TestCase):
    def test_texts(self):
        for thing, text in (
            ((3, 1), "3"), ((-1, 2), "-1:2"), ((0, 1), "0"), ((-7, 1), "-7"), ((22, 7), "22:7"),
            ((MOST, 1), "9" * 40), ((-1, MOST), "-1:" + "9" * 40),
        ):
            with self.subTest(text):
                self.assertEqual(text_of(thing), text)

    def test_what_is_none(self):
        for thing in NO_NUMBERS:
            self.assertRaises(NoNumber, text_of, thing)

    def test_read_back(self):
        for thing in NUMBERS:
            self.assertEqual(read_number(text_of(thing)), thing)


class ReadNumber(unittest.TestCase):
    def test_words(self):
        for word, told in (
            ("06", (6, 1)), ("4:8", (1, 2)), ("-0.25", (-1, 4)), ("-1:2", (-1, 2)),
            ("0", (0, 1)), ("-0", (0, 1)), ("-0.0", (0, 1)), ("0:5", (0, 1)), ("-0:5", (0, 1)),
            ("7", (7, 1)), ("-12", (-12, 1)), ("00", (0, 1)), ("6:3", (2, 1)), ("04:08", (1, 2)),
            ("1.5", (3, 2)), ("1.50", (3, 2)), ("10.0", (10, 1)), ("0.05", (1, 20)), ("-3.125", (-25, 8)),
        ):
            with self.subTest(word):
                self.assertEqual(read_number(word), told)

    def test_all_others(self):
        for word in (
            "1:0", "0:0", "-1:0", "1:00", "", "-", ":", ".", "-:", "-.", "1:", ":1", "1.", ".1", "-.5", "-1.",
            "--1", "+1", "1-", "1-2", "1:-2", "1.-2", "-1:-2", "1:2:3", "1.2.3", "1:2.3", "1.2:3", "1::2", "1..2",
            "a", "1a", "a1", "x:1", "1:x", "1e3", "0x1", "1_0", "1,5", "1/2", " 1", "1 ", "1\n", "\n1", "1\t", "- 1",
            "1 :2", "\u0661", "\u00b2", "1:\u0662", "\uff11", "1.\u0665", "\u22121", "nan", "inf", "None", "()",
        ):
            with self.subTest(word):
                self.assertIsNone(read_number(word))

    def test_forty_figures_in_a_word(self):
        self.assertEqual(read_number("9" * 40), (MOST, 1))
        self.assertEqual(read_number("-" + "9" * 40), (-MOST, 1))
        self.assertEqual(read_number("1:" + "9" * 40), (1, MOST))
        self.assertEqual(read_number("0" * 39 + "1"), (1, 1))
        self.assertEqual(read_number("1." + "0" * 40), (1, 1))
        self.assertEqual(read_number("0" * 40 + ":" + "0" * 39 + "1"), (0, 1))

    def test_one_figure_more_in_a_word(self):
        for word in (
            "1" + "0" * 40, "-1" + "0" * 40, "0" * 41, "0" * 40 + "1", "1:1" + "0" * 40, "1:" + "0" * 40 + "1",
            "0" * 41 + ":1", "0" * 41 + ".1", "1." + "0" * 41, "1" + "0" * 40 + ":1" + "0" * 40, "9" * 5000,
            "1:" + "9" * 5000, "1." + "9" * 5000,
        ):
            with self.subTest(word[:90]):
                self.assertIsNone(read_number(word))

    def test_too_many_figures_only_in_lowest_terms(self):
        for word in ("9" * 40 + ".5", "-" + "9" * 40 + ".5", "0." + "0" * 39 + "1", "0." + "0" * 39 + "3",
                     "1" + "0" * 39 + ".01"):
            with self.subTest(word):
                self.assertIsNone(read_number(word))

    def test_too_many_figures_only_ahead_of_lowest_terms(self):
        self.assertEqual(read_number("9" * 40 + ".0"), (MOST, 1))
        self.assertEqual(read_number("-" + "9" * 40 + "." + "0" * 40), (-MOST, 1))
        self.assertEqual(read_number("0." + "0" * 39 + "5"), (1, 2 * 10 ** 39))
        self.assertEqual(read_number("4" + "0" * 39 + ".5"), (8 * 10 ** 39 + 1, 2))


class Sums(unittest.TestCase):
    SMALL = tuple(number(top, below) for top in range(-6, 7) for below in range(1, 6) if math.gcd(top, below) == 1)

    def test_by_fractions(self):
        for one in self.SMALL:
            for other in self.SMALL:
                first, second = Fraction(*one), Fraction(*other)
                for made, told in ((plus, first + second), (minus, first - second), (times, first * second)):
                    self.assertEqual(made(one, other), (told.numerator, told.denominator))
                if second:
                    told = first / second
                    self.assertEqual(over(one, other), (told.numerator, told.denominator))
                self.assertIs(is_less(one, other), first < second)

    def test_too_many_figures(self):
        most, least = (MOST, 1), (1, MOST)
        for made, one, other in ((plus, most, (1, 1)), (plus, least, (1, MOST - 1)), (minus, (-MOST, 1), (1, 1)),
                                 (minus, (1, 1), (-MOST, 1)), (times, most, (2, 1)), (times, least, (1, 2)), (over, most, least),
                                 (over, least, (2, 1)), (over, (1, 1), None), (over, None, (1, 1)), (plus, None, (1, 1)),
                                 (plus, (1, 1), None), (minus, None, (1, 1)), (minus, (1, 1), None), (times, None, (0, 1)),
                                 (times, (0, 1), None)):
            self.assertIsNone(made(one, other))
        self.assertEqual(plus((MOST - 1, 1), (1, 1)), most)
        self.assertEqual(minus((-MOST + 1, 1), (1, 1)), (-MOST, 1))
        self.assertEqual(times(most, least), (1, 1))
        self.assertEqual(over(most, most), (1, 1))
        self.assertEqual(over((1, 1), most), least)

    def test_in_units(self):
        self.assertEqual(in_units(((1, 2), (-1, 3), (5, 1))), ([3, -2, 30], 6))
        self.assertEqual(in_units(((1, 4), (3, 8))), ([2, 3], 8))
        self.assertEqual(in_units(((7, 1),)), ([7], 1))

    def test_is_within(self):
        for thing, told in ((2, True), (5, True), (3, True), (1, False), (6, False), (True, False), (None, False), ("3", False)):
            self.assertIs(is_within(thing, 2, 5), told)
        self.assertIs(is_within(True, 0, 2), False)


if __name__ == "__main__":
    unittest.main()
