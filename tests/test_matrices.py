"""Point 3.1, and what 0.3 says of it."""

import copy
import inspect
import random
import unittest
from fractions import Fraction

from pageloom import matrices
from pageloom.errors import NoMatrix, NoNumber
from pageloom.exact import is_number
from pageloom.matrices import is_matrix, point, quarter, then, undone
from samples import IDENTITY, MOST, NO_MATRICES, NO_NUMBERS, num, nums, random_value, value

ONE, ZERO = num(1), num(0)
HALF_WAY = 10 ** 20


def by_definition(matrix, x, y):
    a, b, c, d, e, f = [value(part) for part in matrix]
    x, y = value(x), value(y)
    return num(a * x + c * y + e), num(b * x + d * y + f)


def random_matrix(chance):
    return nums(*[random_value(chance) for times in range(6)])


class IsMatrix(unittest.TestCase):
    def test_matrices(self):
        for thing in (IDENTITY, nums(0, 0, 0, 0, 0, 0), nums(1, 2, 3, 4, 5, 6), nums(*[Fraction(-1, 2)] * 6),
                      nums(MOST, -MOST, 0, Fraction(1, MOST), Fraction(-1, MOST), Fraction(MOST, MOST - 1))):
            self.assertIs(is_matrix(thing), True)

    def test_all_else(self):
        for at, thing in enumerate(NO_MATRICES):
            with self.subTest(at=at):
                self.assertIs(is_matrix(thing), False)

    def test_each_of_the_six_is_asked(self):
        for at in range(6):
            for wrong in NO_NUMBERS:
                self.assertIs(is_matrix(IDENTITY[:at] + (wrong,) + IDENTITY[at + 1:]), False)


class Point(unittest.TestCase):
    def test_each_number_has_its_place(self):
        x, y = num(10), num(100)
        self.assertEqual(point(nums(1, 0, 0, 0, 0, 0), x, y), nums(10, 0))
        self.assertEqual(point(nums(0, 1, 0, 0, 0, 0), x, y), nums(0, 10))
        self.assertEqual(point(nums(0, 0, 1, 0, 0, 0), x, y), nums(100, 0))
        self.assertEqual(point(nums(0, 0, 0, 1, 0, 0), x, y), nums(0, 100))
        self.assertEqual(point(nums(0, 0, 0, 0, 7, 0), x, y), nums(7, 0))
        self.assertEqual(point(nums(0, 0, 0, 0, 0, 7), x, y), nums(0, 7))

    def test_one_by_hand(self):
        self.assertEqual(point(nums(1, 2, 3, 4, 5, 6), num(1, 2), num(-1)), nums(Fraction(5, 2), 3))

    def test_by_the_definition(self):
        chance = random.Random(31)
        for times in range(500):
            matrix, x, y = random_matrix(chance), num(random_value(chance)), num(random_value(chance))
            self.assertEqual(point(matrix, x, y), by_definition(matrix, x, y))

    def test_forty_figures(self):
        self.assertEqual(point(IDENTITY, num(MOST), num(-MOST)), nums(MOST, -MOST))
        self.assertEqual(point(IDENTITY, num(1, MOST), num(-1, MOST)), (num(1, MOST), num(-1, MOST)))
        self.assertEqual(point(nums(1, 0, 0, 1, 1, 0), num(MOST - 1), ZERO), nums(MOST, 0))
        self.assertEqual(point(nums(HALF_WAY, 0, 0, 1, 0, 0), num(HALF_WAY - 1), ZERO), nums(HALF_WAY * (HALF_WAY - 1), 0))
        self.assertEqual(point(nums(MOST, 0, 0, 1, 0, 0), num(1, MOST), ZERO), nums(1, 0))

    def test_one_figure_more(self):
        self.assertIsNone(point(nums(1, 0, 0, 1, 1, 0), num(MOST), ZERO))
        self.assertIsNone(point(nums(1, 0, 0, 1, 0, 1), ZERO, num(MOST)))
        self.assertIsNone(point(nums(1, 0, 0, 1, -1, 0), num(-MOST), ZERO))
        self.assertIsNone(point(nums(HALF_WAY, 0, 0, 1, 0, 0), num(HALF_WAY), ZERO))
        self.assertIsNone(point(nums(1, 0, 0, HALF_WAY, 0, 0), ZERO, num(-HALF_WAY)))
        self.assertIsNone(point(nums(1, 0, 0, Fraction(1, HALF_WAY), 0, 0), ZERO, num(1, HALF_WAY)))
        self.assertIsNone(point(nums(1, 0, 0, 1, Fraction(1, MOST), 0), num(1, MOST - 1), ZERO))

    def test_more_figures_on_the_way_alone(self):
        # Each comes to 0, or to what is short, by products or by a first sum that are not.
        self.assertIsNone(point(nums(MOST, 0, -MOST, 1, 0, 0), num(2), num(2)))
        self.assertIsNone(point(nums(1, MOST, 0, -MOST, 0, 0), num(2), num(2)))
        self.assertIsNone(point(nums(1, 0, 1, 1, -MOST, 0), num(MOST), num(MOST)))
        self.assertIsNone(point(nums(1, 1, 0, 1, 0, -MOST), num(MOST), num(MOST)))
        self.assertIsNone(point(nums(2, 0, 0, 1, -MOST, 0), num(MOST), ZERO))
        self.assertIsNone(point(nums(0, 0, 2, 1, -MOST, 0), ZERO, num(MOST)))

    def test_refusals(self):
        for thing in NO_MATRICES:
            self.assertRaises(NoMatrix, point, thing, ONE, ONE)
        for thing in NO_NUMBERS:
            self.assertRaises(NoNumber, point, IDENTITY, thing, ONE)
            self.assertRaises(NoNumber, point, IDENTITY, ONE, thing)
            self.assertRaises(NoMatrix, point, None, thing, ONE)
            self.assertRaises(NoMatrix, point, IDENTITY[:5], ONE, thing)
            self.assertRaises(NoNumber, point, nums(MOST, 0, 0, MOST, 0, 0), num(MOST), thing)


class Then(unittest.TestCase):
    def test_first_comes_first(self):
        wider, aside = nums(2, 0, 0, 3, 0, 0), nums(1, 0, 0, 1, 5, 7)
        self.assertEqual(then(wider, aside), nums(2, 0, 0, 3, 5, 7))
        self.assertEqual(then(aside, wider), nums(2, 0, 0, 3, 10, 21))

    def test_one_by_hand(self):
        self.assertEqual(then(nums(1, 2, 3, 4, 5, 6), nums(7, 8, 9, 10, 11, 12)), nums(25, 28, 57, 64, 100, 112))

    def test_moves_as_both(self):
        chance = random.Random(32)
        for times in range(300):
            first, second = random_matrix(chance), random_matrix(chance)
            made = then(first, second)
            self.assertTrue(is_matrix(made))
            for x, y in ((0, 0), (1, 0), (0, 1), (3, -2)):
                between = point(first, num(x), num(y))
                self.assertEqual(point(made, num(x), num(y)), point(second, *between))

    def test_what_stays(self):
        matrix = nums(1, 2, 3, 4, 5, 6)
        self.assertEqual(then(matrix, IDENTITY), matrix)
        self.assertEqual(then(IDENTITY, matrix), matrix)

    def test_figures(self):
        wide = nums(MOST, 0, 0, 1, 0, 0)
        self.assertEqual(then(wide, IDENTITY), wide)
        self.assertEqual(then(nums(HALF_WAY, 0, 0, 1, 0, 0), nums(HALF_WAY - 1, 0, 0, 1, 0, 0))[0],
                         num(HALF_WAY * (HALF_WAY - 1)))
        for at in range(4):
            first = IDENTITY[:at] + (num(HALF_WAY),) + IDENTITY[at + 1:]
            self.assertIsNone(then(first, nums(HALF_WAY, 0, 0, HALF_WAY, 0, 0)), at)
        for at in (4, 5):
            first = IDENTITY[:at] + (num(MOST),) + IDENTITY[at + 1:]
            second = IDENTITY[:at] + (ONE,) + IDENTITY[at + 1:]
            self.assertIsNone(then(first, second), at)
            self.assertIsNone(then(second, first), at)

    def test_more_figures_on_the_way_alone(self):
        self.assertIsNone(then(nums(2, 2, 0, 1, 0, 0), nums(MOST, 0, -MOST, 1, 0, 0)))
        self.assertIsNone(then(nums(1, 0, 2, 2, 0, 0), nums(0, MOST, 0, -MOST, 0, 0)))
        self.assertIsNone(then(nums(1, 0, 0, 1, MOST, MOST), nums(1, 0, 1, 1, -MOST, 0)))

    def test_refusals(self):
        for thing in NO_MATRICES:
            self.assertRaises(NoMatrix, then, thing, IDENTITY)
            self.assertRaises(NoMatrix, then, IDENTITY, thing)
            self.assertRaises(NoMatrix, then, nums(MOST, 0, 0, MOST, 0, 0), thing)


class Undone(unittest.TestCase):
    def test_by_hand(self):
        self.assertEqual(undone(IDENTITY), IDENTITY)
        self.assertEqual(undone(nums(1, 0, 0, 1, 5, -7)), nums(1, 0, 0, 1, -5, 7))
        self.assertEqual(undone(nums(2, 0, 0, 3, 0, 0)), nums(Fraction(1, 2), 0, 0, Fraction(1, 3), 0, 0))
        self.assertEqual(undone(nums(2, 0, 0, 4, 6, 8)), nums(Fraction(1, 2), 0, 0, Fraction(1, 4), -3, -2))
        self.assertEqual(undone(nums(0, 1, -1, 0, 0, 0)), nums(0, -1, 1, 0, 0, 0))

    def test_moves_all_back(self):
        chance = random.Random(33)
        undone_ones = 0
        for times in range(500):
            matrix = random_matrix(chance)
            a, b, c, d, e, f = [value(each) for each in matrix]
            back = undone(matrix)
            if a * d == b * c:
                self.assertIsNone(back)
                continue
            undone_ones += 1
            self.assertTrue(is_matrix(back))
            self.assertEqual(then(matrix, back), IDENTITY)
            self.assertEqual(then(back, matrix), IDENTITY)
        self.assertGreater(undone_ones, 300)

    def test_where_there_is_none(self):
        for matrix in (nums(0, 0, 0, 0, 0, 0), nums(0, 0, 0, 0, 1, 1), nums(1, 0, 0, 0, 3, 3), nums(0, 0, 0, 1, 0, 0),
                       nums(1, 2, 2, 4, 5, 6), nums(0, 1, 0, 1, 0, 0), nums(Fraction(1, 3), 1, 1, 3, 0, 0)):
            self.assertIsNone(undone(matrix))

    def test_figures(self):
        self.assertEqual(undone(nums(MOST, 0, 0, 1, 0, 0)), nums(Fraction(1, MOST), 0, 0, 1, 0, 0))
        self.assertEqual(undone(nums(Fraction(1, MOST), 0, 0, 1, 0, 0)), nums(MOST, 0, 0, 1, 0, 0))
        self.assertEqual(undone(nums(1, 0, 0, 1, MOST, -MOST)), nums(1, 0, 0, 1, -MOST, MOST))
        self.assertIsNone(undone(nums(1, 0, 0, Fraction(1, 2), MOST, MOST)))
        self.assertIsNone(undone(nums(Fraction(1, 2), 0, 0, 1, MOST, 0)))

    def test_more_figures_on_the_way_alone(self):
        # The matrix that moves back has few figures itself, but what all is divided by has not.
        self.assertIsNone(undone(nums(HALF_WAY, 0, 0, HALF_WAY, 0, 0)))
        self.assertIsNone(undone(nums(0, HALF_WAY, HALF_WAY, 0, 0, 0)))
        self.assertIsNone(undone(nums(Fraction(1, HALF_WAY), 0, 0, Fraction(1, HALF_WAY), 0, 0)))

    def test_refusals(self):
        for thing in NO_MATRICES:
            self.assertRaises(NoMatrix, undone, thing)


class Quarter(unittest.TestCase):
    def test_each(self):
        for many, told in ((0, nums(1, 0, 0, 1, 0, 0)), (1, nums(0, 1, -1, 0, 0, 0)), (2, nums(-1, 0, 0, -1, 0, 0)),
                           (3, nums(0, -1, 1, 0, 0, 0))):
            for rounds in (0, 1, 2, 25, -1, -2, -25, 10 ** 60, -10 ** 60):
                self.assertEqual(quarter(many + 4 * rounds), told)

    def test_each_turn_moves_so(self):
        x, y = num(3), num(1, 2)
        self.assertEqual(point(quarter(1), x, y), (num(-1, 2), num(3)))
        made = IDENTITY
        for many in range(9):
            self.assertEqual(quarter(many), made)
            self.assertEqual(then(quarter(many), quarter(-many)), IDENTITY)
            self.assertTrue(is_matrix(quarter(many)))
            made = then(made, quarter(1))

    def test_refusals(self):
        for thing in (True, False, None, "", "1", (), [], (1, 1), (0, 1), [1], ((1,),)):
            self.assertRaises(NoNumber, quarter, thing)


class AsPromised(unittest.TestCase):
    def test_arguments(self):
        for name, many in (("is_matrix", 1), ("point", 3), ("then", 2), ("undone", 1), ("quarter", 1)):
            told = inspect.signature(getattr(matrices, name)).parameters.values()
            self.assertEqual([kept.default for kept in told], [inspect.Parameter.empty] * many)

    def test_kinds(self):
        for made in (point(IDENTITY, ONE, ONE), then(IDENTITY, IDENTITY), undone(IDENTITY), quarter(2)):
            self.assertIs(type(made), tuple)
            self.assertTrue(all(is_number(each) for each in made))

    def test_what_is_handed_in_stays(self):
        things = [list(IDENTITY), [IDENTITY], (list(IDENTITY),)]
        kept = copy.deepcopy(things)
        for thing in things:
            self.assertFalse(is_matrix(thing))
            self.assertRaises(NoMatrix, then, thing, thing)
        self.assertEqual(things, kept)


if __name__ == "__main__":
    unittest.main()
