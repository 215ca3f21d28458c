"""Points 4.1 and 4.2, and what 0.3 says of them."""

import copy
import inspect
import random
import unittest
from fractions import Fraction

from pageloom import paths
from pageloom.errors import NoMatrix, NoPath
from pageloom.matrices import point
from pageloom.paths import box_of, eighths, is_path, moved_path
from samples import (IDENTITY, MORE, MOST, NO_MATRICES, NO_PATHS, NO_POINTS, PATHS, SQUARE, box, nums, part, random_path,
                     random_value, value)

ORIGIN = nums(0, 0)


class IsPath(unittest.TestCase):
    def test_paths(self):
        for thing in PATHS:
            self.assertIs(is_path(thing), True)
        chance = random.Random(41)
        for times in range(100):
            self.assertIs(is_path(random_path(chance)), True)

    def test_all_else(self):
        for at, thing in enumerate(NO_PATHS):
            with self.subTest(at=at):
                self.assertIs(is_path(thing), False)

    def test_each_part_and_point_is_asked(self):
        for wrong in NO_POINTS:
            for at in range(3):
                points = (ORIGIN,) * at + (wrong,) + (ORIGIN,) * (2 - at)
                self.assertIs(is_path(((points, True),)), False)
                self.assertIs(is_path(SQUARE + ((points, False),)), False)
                self.assertIs(is_path(((points, False),) + SQUARE), False)

    def test_closed_is_a_truth(self):
        self.assertIs(is_path((((ORIGIN,), True),)), True)
        self.assertIs(is_path((((ORIGIN,), False),)), True)
        for wrong in (0, 1, None, "", "True", (), (True,), [False], (1, 1)):
            self.assertIs(is_path((((ORIGIN,), wrong),)), False)


def curve_at(bends, t):
    start, one, other, end = bends
    return (1 - t) ** 3 * start + 3 * (1 - t) ** 2 * t * one + 3 * (1 - t) * t ** 2 * other + t ** 3 * end


class Eighths(unittest.TestCase):
    def test_a_straight_one(self):
        told = eighths(nums(0, 0), nums(8, 16), nums(16, 32), nums(24, 48))
        self.assertEqual(told, [nums(3 * many, 6 * many) for many in range(1, 9)])

    def test_each_bend_by_hand(self):
        low = nums(0, 0)
        far = nums(512, -512)
        for at, told in ((0, (343, 216, 125, 64, 27, 8, 1, 0)), (1, (147, 216, 225, 192, 135, 72, 21, 0)),
                         (2, (21, 72, 135, 192, 225, 216, 147, 0)), (3, (1, 8, 27, 64, 125, 216, 343, 512))):
            bends = [low] * at + [far] + [low] * (3 - at)
            self.assertEqual(eighths(*bends), [nums(each, -each) for each in told])

    def test_by_the_definition(self):
        chance = random.Random(42)
        for times in range(200):
            bends = [nums(random_value(chance), random_value(chance)) for each in range(4)]
            told = eighths(*bends)
            self.assertIs(type(told), list)
            self.assertEqual(len(told), 8)
            for many in range(1, 9):
                t = Fraction(many, 8)
                x = curve_at([value(bend[0]) for bend in bends], t)
                y = curve_at([value(bend[1]) for bend in bends], t)
                self.assertEqual(told[many - 1], nums(x, y))
            self.assertEqual(told[7], bends[3])

    def test_figures(self):
        far = nums(MOST, -MOST)
        self.assertEqual(eighths(far, far, far, far), [far] * 8)
        near = nums(Fraction(1, MOST), 0)
        self.assertEqual(eighths(near, near, near, near), [near] * 8)
        even = 512 * 10 ** 37
        self.assertEqual(eighths(ORIGIN, ORIGIN, ORIGIN, nums(even, 0))[0], nums(10 ** 37, 0))

    def test_one_figure_more(self):
        for at in range(4):
            for far in (nums(MOST, 0), nums(0, MOST), nums(Fraction(1, MOST), 0), nums(0, Fraction(-1, MOST))):
                bends = [ORIGIN] * at + [far] + [ORIGIN] * (3 - at)
                self.assertIsNone(eighths(*bends), (at, far))

    def test_one_of_the_eight_is_enough(self):
        # From such a start to 0 the first eighth is 343 times it, by 512, and all others are less.
        longest = MOST // 343 // 2 * 2 - 1
        for x, y in ((longest, 0), (0, -longest)):
            told = eighths(nums(x, y), ORIGIN, ORIGIN, ORIGIN)
            self.assertEqual(told[0], nums(Fraction(x * 343, 512), Fraction(y * 343, 512)))
        for x, y in ((longest + 4, 0), (0, -longest - 4)):
            self.assertLess((longest + 4) * 216, MORE)
            self.assertIsNone(eighths(nums(x, y), ORIGIN, ORIGIN, ORIGIN))

    def test_refusals(self):
        for thing in NO_POINTS:
            for at in range(4):
                bends = [ORIGIN] * at + [thing] + [ORIGIN] * (3 - at)
                self.assertRaises(NoPath, eighths, *bends)
        self.assertRaises(NoPath, eighths, nums(MOST, 0), ORIGIN, ORIGIN, None)

    def test_a_new_list_each_time(self):
        eighths(ORIGIN, ORIGIN, ORIGIN, ORIGIN).clear()
        self.assertEqual(eighths(ORIGIN, ORIGIN, ORIGIN, ORIGIN), [ORIGIN] * 8)


class MovedPath(unittest.TestCase):
    def test_by_hand(self):
        path = (part((0, 0), (1, 2)), part((3, 4), closed=True))
        self.assertEqual(moved_path(path, nums(2, 0, 0, 3, 10, 20)), (part((10, 20), (12, 26)), part((16, 32), closed=True)))
        self.assertEqual(moved_path(path, nums(0, 1, -1, 0, 0, 0)), (part((0, 0), (-2, 1)), part((-4, 3), closed=True)))

    def test_each_point_is_moved(self):
        chance = random.Random(43)
        for times in range(200):
            path = random_path(chance)
            matrix = nums(*[random_value(chance) for each in range(6)])
            told = tuple((tuple(point(matrix, x, y) for x, y in points), closed) for points, closed in path)
            self.assertEqual(moved_path(path, matrix), told)
            self.assertEqual(moved_path(path, IDENTITY), path)

    def test_without_parts(self):
        self.assertEqual(moved_path((), nums(1, 2, 3, 4, 5, 6)), ())
        self.assertEqual(moved_path((), nums(0, 0, 0, 0, 0, 0)), ())

    def test_a_matrix_that_can_not_be_undone(self):
        self.assertEqual(moved_path(SQUARE, nums(0, 0, 0, 0, 1, 2)), (part(*[(1, 2)] * 4, closed=True),))

    def test_figures(self):
        path = (part((1, 2)), part((3, 4), (MOST - 1, 5)))
        self.assertEqual(moved_path(path, nums(1, 0, 0, 1, 1, 0)), (part((2, 2)), part((4, 4), (MOST, 5))))
        self.assertIsNone(moved_path(path, nums(1, 0, 0, 1, 2, 0)))
        self.assertIsNone(moved_path(path[::-1], nums(1, 0, 0, 1, 2, 0)))
        self.assertIsNone(moved_path((part((0, MOST)),), nums(1, 0, 0, 1, 0, 1)))

    def test_refusals(self):
        for thing in NO_PATHS:
            self.assertRaises(NoPath, moved_path, thing, IDENTITY)
            self.assertRaises(NoPath, moved_path, thing, None)
        for thing in NO_MATRICES:
            self.assertRaises(NoMatrix, moved_path, SQUARE, thing)
            self.assertRaises(NoMatrix, moved_path, (), thing)
            self.assertRaises(NoPath, moved_path, None, thing)


class BoxOf(unittest.TestCase):
    def test_by_hand(self):
        self.assertEqual(box_of(SQUARE), nums(0, 0, 4, 4))
        self.assertEqual(box_of((part((3, -5)),)), nums(3, -5, 3, -5))
        self.assertEqual(box_of((part((1, 20), (-3, 4)), part((2, -6), (0, 0), closed=True))), nums(-3, -6, 2, 20))
        self.assertEqual(box_of((part((Fraction(1, 3), Fraction(1, 2)), (Fraction(1, 2), Fraction(1, 3))),)),
                         nums(Fraction(1, 3), Fraction(1, 3), Fraction(1, 2), Fraction(1, 2)))
        self.assertEqual(box_of((part((-10, -9), (-9, -10), (9, 10), (10, 9)),)), nums(-10, -10, 10, 10))

    def test_by_the_definition(self):
        chance = random.Random(44)
        for times in range(300):
            path = random_path(chance)
            xs = [value(x) for points, closed in path for x, y in points]
            ys = [value(y) for points, closed in path for x, y in points]
            told = nums(min(xs), min(ys), max(xs), max(ys)) if path else None
            self.assertEqual(box_of(path), told)

    def test_without_any(self):
        self.assertIsNone(box_of(()))

    def test_figures(self):
        self.assertEqual(box_of((part((MOST, 0), (-MOST, Fraction(1, MOST)), (0, Fraction(1, MOST - 1))),)),
                         nums(-MOST, 0, MOST, Fraction(1, MOST - 1)))

    def test_refusals(self):
        for thing in NO_PATHS:
            self.assertRaises(NoPath, box_of, thing)


class AsPromised(unittest.TestCase):
    def test_arguments(self):
        for name, many in (("is_path", 1), ("eighths", 4), ("moved_path", 2), ("box_of", 1)):
            told = inspect.signature(getattr(paths, name)).parameters.values()
            self.assertEqual([kept.default for kept in told], [inspect.Parameter.empty] * many)

    def test_kinds(self):
        moved = moved_path((box(0, 0, 1, 1),), IDENTITY)
        self.assertIs(is_path(moved), True)
        self.assertIs(type(box_of(moved)), tuple)

    def test_what_is_handed_in_stays(self):
        things = [[part((0, 0))], ([ORIGIN], True), [[ORIGIN], [True]]]
        kept = copy.deepcopy(things)
        for thing in things:
            self.assertFalse(is_path(thing))
            self.assertRaises(NoPath, box_of, thing)
            self.assertRaises(NoPath, moved_path, thing, thing)
        self.assertEqual(things, kept)


if __name__ == "__main__":
    unittest.main()
