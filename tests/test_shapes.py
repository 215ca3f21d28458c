"""Points 5.1 and 5.2, and what 0.3 says of them."""

import copy
import inspect
import random
import unittest
from fractions import Fraction

from pageloom import shapes
from pageloom.errors import NoNumber, NoPath, NoRule
from pageloom.shapes import is_inside, is_on_stroke, winding
from samples import (MOST, NO_NUMBERS, NO_PATHS, NO_RULES, SQUARE, box, num, nums, part, random_path, random_value, turned_round,
                     value)

ONE = num(1)
HALF = Fraction(1, 2)


def told_winding(path, x, y):
    """The definition, line by line, over fractions."""
    many = 0
    for points, closed in path:
        points = [(value(one), value(other)) for one, other in points]
        for at, (x1, y1) in enumerate(points):
            x2, y2 = points[(at + 1) % len(points)]
            if (y1 <= y < y2 or y2 <= y < y1) and x1 + (y - y1) * (x2 - x1) / (y2 - y1) > x:
                many += 1 if y1 < y2 else -1
    return many


def told_stroke(path, width, x, y):
    """Whether the nearest place of some line, by fractions, is near enough."""
    for points, closed in path:
        points = [(value(one), value(other)) for one, other in points]
        lines = list(zip(points, points[1:]))
        if closed or len(points) == 1:
            lines.append((points[-1], points[0]))
        for (x1, y1), (x2, y2) in lines:
            long = (x2 - x1) ** 2 + (y2 - y1) ** 2
            share = ((x - x1) * (x2 - x1) + (y - y1) * (y2 - y1)) / long if long else Fraction(0)
            share = min(max(share, Fraction(0)), Fraction(1))
            far = (x1 + share * (x2 - x1) - x) ** 2 + (y1 + share * (y2 - y1) - y) ** 2
            if far <= (width / 2) ** 2:
                return True
    return False


def places_of(chance, path, many):
    """Places by chance, and such as lie on points, on lines and at heights of points."""
    told = [(random_value(chance), random_value(chance)) for times in range(many)]
    for points, closed in path:
        points = [(value(x), value(y)) for x, y in points]
        for at, (x, y) in enumerate(points):
            x2, y2 = points[at - 1]
            told += [(x, y), (x - 1, y), (x + 1, y), (x, y - 1), ((x + x2) / 2, (y + y2) / 2), ((2 * x + x2) / 3, (2 * y + y2) / 3)]
    return told


class Winding(unittest.TestCase):
    def winds(self, path, x, y, many):
        self.assertEqual(winding(path, num(x), num(y)), many, (path, x, y))

    def test_once_round(self):
        self.winds(SQUARE, 2, 2, 1)
        self.winds((turned_round(SQUARE[0]),), 2, 2, -1)
        for x, y in ((-1, 2), (5, 2), (2, -1), (2, 5), (-1, -1), (5, 5)):
            self.winds(SQUARE, x, y, 0)

    def test_open_parts_go_round_too(self):
        self.winds((box(0, 0, 4, 4, closed=False),), 2, 2, 1)
        self.winds((part((0, 0), (4, 0), (4, 4)),), 3, 1, 1)
        self.winds((part((0, 0), (4, 0), (4, 4)),), 1, 3, 0)

    def test_several_parts(self):
        outer, inner = box(0, 0, 8, 8), box(2, 2, 6, 6)
        self.winds((outer, inner), 4, 4, 2)
        self.winds((outer, inner), 1, 1, 1)
        self.winds((outer, turned_round(inner)), 4, 4, 0)
        self.winds((outer, turned_round(inner)), 1, 1, 1)
        self.winds((outer,) * 5, 4, 4, 5)
        self.winds((turned_round(outer),) * 3, 4, 4, -3)

    def test_twice_round_in_one_part(self):
        points = [(0, 0), (4, 0), (4, 4), (0, 4)]
        self.winds((part(*points * 2, closed=True),), 2, 2, 2)

    def test_without_lines(self):
        self.winds((), 0, 0, 0)
        self.winds((part((0, 0)), part((1, 1), closed=True)), 0, 0, 0)
        self.winds((part((0, 0), (0, 4)),), -1, 2, 0)
        self.winds((part((0, 0), (0, 4), closed=True),), -1, 2, 0)

    def test_right_on_a_steep_line(self):
        self.winds(SQUARE, 0, 2, 1)
        self.winds(SQUARE, 4, 2, 0)

    def test_right_on_a_flat_line(self):
        self.winds(SQUARE, 2, 0, 1)
        self.winds(SQUARE, 2, 4, 0)

    def test_right_on_a_point(self):
        self.winds(SQUARE, 0, 0, 1)
        self.winds(SQUARE, 4, 0, 0)
        self.winds(SQUARE, 0, 4, 0)
        self.winds(SQUARE, 4, 4, 0)

    def test_at_the_height_of_a_point(self):
        kite = (part((0, 2), (2, 0), (4, 2), (2, 4), closed=True),)
        self.winds(kite, 2, 2, 1)
        self.winds(kite, -1, 2, 0)
        self.winds(kite, 1, 0, 0)
        self.winds(kite, 1, 4, 0)
        self.winds(kite, 2, 0, 0)
        self.winds(kite, 0, 2, 1)
        self.winds(kite, 4, 2, 0)
        self.winds((turned_round(kite[0]),), 2, 2, -1)
        self.winds((turned_round(kite[0]),), 0, 2, -1)

    def test_right_on_a_slanting_line(self):
        slant = (part((0, 0), (6, 3), (0, 3), closed=True),)
        self.winds(slant, 2, 1, 0)
        self.winds(slant, Fraction(199, 100), 1, 1)
        self.winds(slant, 1, HALF, 0)
        self.winds(slant, Fraction(99, 100), HALF, 1)

    def test_by_the_definition(self):
        chance = random.Random(51)
        seen = set()
        for times in range(150):
            path = random_path(chance)
            for x, y in places_of(chance, path, 5):
                told = told_winding(path, x, y)
                seen.add(told)
                self.winds(path, x, y, told)
        self.assertLessEqual({-1, 0, 1, 2}, seen)

    def test_many_figures(self):
        far = (box(-MOST, -MOST, MOST, MOST),)
        self.winds(far, 0, 0, 1)
        self.winds(far, MOST, 0, 0)
        self.winds(far, MOST - 1, MOST - 1, 1)
        self.winds(far, Fraction(1, MOST), Fraction(-1, MOST), 1)
        tiny = (box(0, 0, Fraction(1, MOST), Fraction(1, MOST - 1)),)
        self.winds(tiny, 0, 0, 1)
        self.winds(tiny, Fraction(1, MOST), 0, 0)
        self.winds(tiny, 0, Fraction(1, MOST), 1)
        self.winds(tiny, 0, Fraction(1, MOST - 1), 0)
        slant = (part((0, 0), (1, MOST), (-1, MOST)),)
        self.winds(slant, 0, 1, 1)
        self.winds(slant, Fraction(1, MOST), 1, 0)
        self.winds(slant, Fraction(1, MOST), 2, 1)
        self.winds(slant, Fraction(-1, MOST), 1, 1)
        self.winds(slant, Fraction(-2, MOST), 1, 0)

    def test_refusals(self):
        for thing in NO_PATHS:
            self.assertRaises(NoPath, winding, thing, ONE, ONE)
            self.assertRaises(NoPath, winding, thing, None, True)
        for thing in NO_NUMBERS:
            self.assertRaises(NoNumber, winding, SQUARE, thing, ONE)
            self.assertRaises(NoNumber, winding, SQUARE, ONE, thing)
            self.assertRaises(NoNumber, winding, (), ONE, thing)
            self.assertRaises(NoPath, winding, None, thing, thing)


class IsInside(unittest.TestCase):
    def lies(self, path, x, y, whole, odd):
        self.assertIs(is_inside(path, "whole", num(x), num(y)), whole, (path, x, y))
        self.assertIs(is_inside(path, "odd", num(x), num(y)), odd, (path, x, y))

    def test_both_rules(self):
        outer, inner = box(0, 0, 8, 8), box(2, 2, 6, 6)
        back = turned_round(outer)
        self.lies((), 4, 4, False, False)
        self.lies((outer,), 4, 4, True, True)
        self.lies((back,), 4, 4, True, True)
        self.lies((outer, inner), 4, 4, True, False)
        self.lies((outer, inner), 1, 1, True, True)
        self.lies((outer, turned_round(inner)), 4, 4, False, False)
        self.lies((back,) * 2, 4, 4, True, False)
        self.lies((back,) * 3, 4, 4, True, True)
        self.lies((outer, inner), 9, 9, False, False)

    def test_by_the_definition(self):
        chance = random.Random(52)
        for times in range(80):
            path = random_path(chance)
            for x, y in places_of(chance, path, 5):
                many = told_winding(path, x, y)
                self.lies(path, x, y, many != 0, many in (-5, -3, -1, 1, 3, 5))

    def test_refusals(self):
        for thing in NO_PATHS:
            self.assertRaises(NoPath, is_inside, thing, "odd", ONE, ONE)
            self.assertRaises(NoPath, is_inside, thing, "even", None, ONE)
        for thing in NO_RULES:
            self.assertRaises(NoRule, is_inside, SQUARE, thing, ONE, ONE)
            self.assertRaises(NoRule, is_inside, SQUARE, thing, None, True)
            self.assertRaises(NoPath, is_inside, None, thing, None, True)
        for thing in NO_NUMBERS:
            for rule in ("whole", "odd"):
                self.assertRaises(NoNumber, is_inside, SQUARE, rule, thing, ONE)
                self.assertRaises(NoNumber, is_inside, (), rule, ONE, thing)


class IsOnStroke(unittest.TestCase):
    def lies(self, path, width, x, y, told):
        self.assertIs(is_on_stroke(path, num(width), num(x), num(y)), told, (path, width, x, y))

    def test_beside_a_line(self):
        line = (part((0, 0), (10, 0)),)
        for x, y, told in ((5, 0, True), (5, 1, True), (5, -1, True), (5, Fraction(11, 10), False), (5, -2, False),
                           (0, 1, True), (10, -1, True), (-1, 0, True), (11, 0, True), (Fraction(-11, 10), 0, False),
                           (12, 0, False), (-1, 1, False), (11, 1, False), (11, -1, False)):
            self.lies(line, 2, x, y, told)

    def test_ends_are_round(self):
        line = (part((0, 0), (0, 10)),)
        self.lies(line, 10, 3, -4, True)
        self.lies(line, 10, Fraction(301, 100), -4, False)
        self.lies(line, 10, -4, 13, True)
        self.lies(line, 10, -4, Fraction(1301, 100), False)

    def test_just_as_far_as_half_the_width(self):
        slant = (part((0, 0), (8, 6)),)
        self.lies(slant, 10, 1, 7, True)
        self.lies(slant, 10, 1, Fraction(701, 100), False)
        self.lies(slant, Fraction(999, 100), 1, 7, False)
        self.lies(slant, 1, Fraction(-3, 10) + 4, Fraction(4, 10) + 3, True)
        self.lies(slant, Fraction(99, 100), Fraction(-3, 10) + 4, Fraction(4, 10) + 3, False)

    def test_open_and_closed_parts(self):
        points = ((0, 0), (10, 0), (10, 10))
        self.lies((part(*points),), 1, 5, 5, False)
        self.lies((part(*points, closed=True),), 1, 5, 5, True)
        self.lies((part(*points),), 1, 10, 5, True)
        self.lies((part((0, 0), (4, 0), closed=True),), 1, 2, 0, True)

    def test_inside_of_a_path_is_not_on_its_stroke(self):
        self.lies(SQUARE, 1, 2, 2, False)
        self.lies(SQUARE, 4, 2, 2, True)

    def test_a_part_of_one_point(self):
        for closed in (False, True):
            spot = (part((3, 3), closed=closed),)
            self.lies(spot, 0, 3, 3, True)
            self.lies(spot, 0, 3, Fraction(301, 100), False)
            self.lies(spot, 10, 0, 7, True)
            self.lies(spot, 10, Fraction(-1, 100), 7, False)
            self.lies(spot, 2, 4, 4, False)

    def test_points_that_are_twice_there(self):
        self.lies((part((1, 1), (1, 1)),), 2, 2, 1, True)
        self.lies((part((1, 1), (1, 1)),), 2, 3, 1, False)

    def test_a_width_of_0(self):
        slant = (part((0, 0), (6, 3)),)
        self.lies(slant, 0, 2, 1, True)
        self.lies(slant, 0, Fraction(1, 3), Fraction(1, 6), True)
        self.lies(slant, 0, 0, 0, True)
        self.lies(slant, 0, 6, 3, True)
        self.lies(slant, 0, 8, 4, False)
        self.lies(slant, 0, -2, -1, False)
        self.lies(slant, 0, 2, Fraction(MOST - 1, MOST), False)

    def test_lines_are_drawn_within_parts_alone(self):
        self.lies((part((0, 0), (2, 0)), part((8, 0), (10, 0))), 1, 5, 0, False)
        self.lies((part((0, 0), (2, 0)), part((8, 0), (10, 0))), 1, 9, 0, True)

    def test_without_parts(self):
        self.lies((), 100, 0, 0, False)

    def test_by_the_definition(self):
        chance = random.Random(53)
        counts = {True: 0, False: 0}
        for times in range(60):
            path = random_path(chance)
            width = abs(random_value(chance, 5))
            for x, y in places_of(chance, path, 4):
                for beside in (Fraction(0), width / 2, width / 2 + Fraction(1, 1000)):
                    told = told_stroke(path, width, x + beside, y)
                    counts[told] += 1
                    self.lies(path, width, x + beside, y, told)
        self.assertGreater(min(counts.values()), 400)

    def test_many_figures(self):
        far = (part((-MOST, 0), (MOST, 0)),)
        self.lies(far, MOST, 0, Fraction(MOST, 2), True)
        self.lies(far, MOST - 1, 0, Fraction(MOST, 2), False)
        self.lies(far, 0, Fraction(1, MOST), 0, True)
        self.lies(far, Fraction(2, MOST), 0, Fraction(1, MOST), True)
        self.lies(far, Fraction(1, MOST), 0, Fraction(1, MOST), False)

    def test_refusals(self):
        for thing in NO_PATHS:
            self.assertRaises(NoPath, is_on_stroke, thing, ONE, ONE, ONE)
            self.assertRaises(NoPath, is_on_stroke, thing, None, None, None)
        for thing in NO_NUMBERS + ((-1, 1), (-1, MOST), (-MOST, 1)):
            with self.assertRaisesRegex(NoNumber, "width"):
                is_on_stroke(SQUARE, thing, ONE, ONE)
            with self.assertRaisesRegex(NoNumber, "width"):
                is_on_stroke((), thing, None, ONE)
            self.assertRaises(NoPath, is_on_stroke, None, thing, ONE, ONE)
        for thing in NO_NUMBERS:
            self.assertRaises(NoNumber, is_on_stroke, SQUARE, ONE, thing, ONE)
            self.assertRaises(NoNumber, is_on_stroke, (), num(0), ONE, thing)


class AsPromised(unittest.TestCase):
    def test_arguments(self):
        for name, many in (("winding", 3), ("is_inside", 4), ("is_on_stroke", 4)):
            told = inspect.signature(getattr(shapes, name)).parameters.values()
            self.assertEqual([kept.default for kept in told], [inspect.Parameter.empty] * many)

    def test_kinds(self):
        for made in (winding(SQUARE, ONE, ONE), winding((), ONE, ONE)):
            self.assertIs(type(made), int)

    def test_what_is_handed_in_stays(self):
        things = [list(SQUARE), [list(nums(0, 0)), True]]
        kept = copy.deepcopy(things)
        for thing in things:
            self.assertRaises(NoPath, winding, thing, thing, thing)
            self.assertRaises(NoPath, is_inside, thing, thing, thing, thing)
            self.assertRaises(NoPath, is_on_stroke, thing, thing, thing, thing)
            self.assertRaises(NoRule, is_inside, SQUARE, thing, thing, thing)
        self.assertEqual(things, kept)


if __name__ == "__main__":
    unittest.main()
