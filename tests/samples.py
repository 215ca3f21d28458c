"""What the tests of several modules share: numbers by fractions, ways of making paths, and things that are none."""

from fractions import Fraction

MOST = 10 ** 40 - 1
MORE = 10 ** 40

# Any thing, as point 0.3 has it: none of these is a number, a matrix, a path with parts, a deed, or a page.
ODD_THINGS = (
    0, 1, -1, 7, True, False, None, "", "a", "odd", "whole", "erase", "0\n", [], [0], [[]], ["erase"], [True], [None],
    (0,), (True,), (None,), ("",), ("a", "b"), ((),), ([],), (((),),), ((((((1,),),),),),), [[[[[[1]]]]]], (1, 2, 3, 4, 5),
    (1, 2, 3, 4, 5, 6), (True, False), ("erase", None), ((1, 1), True), (((1, 1), (1, 1)), True), [(1, 1), (1, 1)],
)


def num(top, below=1):
    """The number of whole ones, or of a fraction, by Python's own fractions."""
    told = Fraction(top, below)
    return told.numerator, told.denominator


def nums(*values):
    return tuple(num(value) for value in values)


def value(number):
    return Fraction(*number)


def part(*points, closed=False):
    """A part of a path, of points as pairs of whole numbers or fractions."""
    return tuple(nums(x, y) for x, y in points), closed


def box(left, low, right, high, closed=True):
    """A part with these sides, gone round once, so that its winding is 1."""
    return part((left, low), (right, low), (right, high), (left, high), closed=closed)


def turned_round(one):
    """A part with its points the other way round."""
    points, closed = one
    return points[::-1], closed


def random_value(chance, far=12):
    return Fraction(chance.randrange(-far, far + 1), chance.choice((1, 1, 2, 2, 3, 8)))


def random_path(chance, most_parts=3, most_points=5, far=12):
    """A path with some points in a row at one height, and some twice."""
    parts = []
    for times in range(chance.randrange(most_parts + 1)):
        points = [(random_value(chance, far), random_value(chance, far)) for one in range(chance.randrange(1, most_points + 1))]
        if chance.random() < 0.3:
            points.append((points[-1][0] + 1, points[-1][1]))
        if chance.random() < 0.2:
            points.append(points[0])
        parts.append(part(*points, closed=chance.random() < 0.5))
    return tuple(parts)


SQUARE = (box(0, 0, 4, 4),)
IDENTITY = nums(1, 0, 0, 1, 0, 0)

PATHS = (
    (), (part((0, 0)),), (part((0, 0), closed=True),), SQUARE, (box(0, 0, 4, 4, closed=False),),
    (box(0, 0, 4, 4), part((1, 1), (2, 2)), part((Fraction(-1, 2), 3))), (part((MOST, -MOST)),),
)
GOOD = nums(0, 0)
NO_PATHS = ODD_THINGS + (
    [], list(SQUARE), SQUARE[0], (list(SQUARE[0]),), ((list(SQUARE[0][0]), True),), SQUARE + (None,), SQUARE + ((),),
    (((), True),), (((), False),), (((GOOD,), 0),), (((GOOD,), 1),), (((GOOD,), None),), (((GOOD,), "True"),),
    (((GOOD,),),), (((GOOD,), True, True),), (((GOOD,), (True,)),), ((GOOD, True),), ((True, (GOOD,)),),
    ((((0, 0),), True),), (((GOOD, None),), True), (((GOOD, GOOD[0]), True),), (((GOOD + GOOD, GOOD), True),),
    ((((GOOD[0],),), True),), (((list(GOOD),), True),), ((((GOOD[0], [0, 1]),), True),), ((((GOOD[0], (True, 1)),), True),),
    (((((0, True), GOOD[0]),), True),), ((((GOOD[0], (2, 4)),), True),), ((((GOOD[0], (1, 0)),), True),),
    ((((GOOD[0], (MORE, 1)),), True),), ((((GOOD[0], (1, MORE)),), True),), ((((GOOD[0], None),), True),),
    (SQUARE[0], (((GOOD[0], (1, -1)),), False)), (SQUARE[0], ((), False)),
)
NO_POINTS = (
    0, True, None, "", "ab", (), [], (0, 0), (1, 2), (GOOD[0],), GOOD + GOOD[:1], list(GOOD), (GOOD[0], None), (None, GOOD[0]),
    (GOOD[0], 1), (GOOD[0], True), (GOOD[0], (True, 1)), ((0, True), GOOD[0]), (GOOD[0], [0, 1]), (GOOD[0], (2, 2)),
    (GOOD[0], (MORE, 1)), ((1, MORE), GOOD[0]), (GOOD, GOOD), ((GOOD,), True), SQUARE, (GOOD,),
)
NO_NUMBERS = (
    0, 1, -1, True, False, None, "", "1", "1:2", (), [], [0, 1], [1, 2], (1,), (1, 1, 1), (True, 1), (1, True), (False, 1),
    (None, 1), ("1", 1), (2, 4), (0, 2), (1, 0), (1, -2), (MORE, 1), (-MORE, 1), (1, MORE), ((1, 1), 1), ((((((1,),),),),), 1),
)
NO_MATRICES = ODD_THINGS + NO_NUMBERS + (
    (), IDENTITY[:5], IDENTITY + IDENTITY[:1], list(IDENTITY), (1, 0, 0, 1, 0, 0), (True,) * 6, (None,) * 6, [None] * 6,
    IDENTITY[:5] + (None,), IDENTITY[:5] + (0,), IDENTITY[:5] + (True,), IDENTITY[:5] + ([0, 1],), IDENTITY[:5] + ((True, 1),),
    IDENTITY[:5] + ((2, 2),), ((0, True),) + IDENTITY[1:], ((MORE, 1),) + IDENTITY[1:],
    IDENTITY[:3] + ((1, MORE),) + IDENTITY[4:], (IDENTITY,), (IDENTITY[:3], IDENTITY[3:]), "abcdef", (IDENTITY,) * 6,
)
NO_RULES = (0, 1, True, False, None, "", "Odd", "odd ", "even", "wholeodd", ("odd",), ["odd"], [], (), (("odd",),))
NO_TEXTS = (0, 1, True, False, None, [], ["1"], (), ("1",), [[]], ((((((1,),),),),),), b"1", ("1", "2"))
# Texts that can not be read, with the row and the column at which they can not.
UNREADABLE = (("1 2 }", 1, 5), ("1\n (a", 2, 2), ("{ { }", 1, 1), ("A", 1, 1), ("/", 1, 1), ("1 1a", 1, 3), ("\n\n  )", 3, 3))
