"""Matrices: tuples of six numbers that move points."""

from pageloom.errors import NoMatrix, NoNumber
from pageloom.exact import is_number, is_whole, minus, need_number, over, plus, times

ZERO = (0, 1)
QUARTERS = (
    (1, 0, 0, 1, 0, 0),
    (0, 1, -1, 0, 0, 0),
    (-1, 0, 0, -1, 0, 0),
    (0, -1, 1, 0, 0, 0),
)


def is_matrix(thing):
    """Whether any thing is a matrix."""
    if not isinstance(thing, tuple) or len(thing) != 6:
        return False
    return all([is_number(part) for part in thing])


def need_matrix(thing):
    """Refuses any thing that is no matrix."""
    if not is_matrix(thing):
        raise NoMatrix("this is no matrix")


def all_told(parts):
    """A tuple of all parts of a list; None where one of them is None."""
    return None if None in parts else tuple(parts)


def moved(matrix, x, y):
    """The point to which a matrix moves (x, y); None where some number would have too many figures."""
    a, b, c, d, e, f = matrix
    to_x = plus(plus(times(a, x), times(c, y)), e)
    to_y = plus(plus(times(b, x), times(d, y)), f)
    return all_told([to_x, to_y])


def turned(matrix, x, y):
    """As moved, but without the matrix's last two numbers."""
    return moved(matrix[:4] + (ZERO, ZERO), x, y)


def point(matrix, x, y):
    """The point to which a matrix moves (x, y); None where some number would have too many figures."""
    need_matrix(matrix)
    need_number(x)
    need_number(y)
    return moved(matrix, x, y)


def then(first, second):
    """The matrix that moves as first and then second do; None where some number would have too many figures."""
    need_matrix(first)
    need_matrix(second)
    a, b, c, d, e, f = first
    pairs = all_told([turned(second, a, b), turned(second, c, d), moved(second, e, f)])
    return None if pairs is None else pairs[0] + pairs[1] + pairs[2]


def undone(matrix):
    """The matrix that moves all back; None without one, or where some number would have too many figures."""
    need_matrix(matrix)
    a, b, c, d, e, f = matrix
    spread = minus(times(a, d), times(b, c))
    if spread is None or spread == ZERO:
        return None
    back_e = minus(times(c, f), times(d, e))
    back_f = minus(times(b, e), times(a, f))
    parts = (d, minus(ZERO, b), minus(ZERO, c), a, back_e, back_f)
    return all_told([over(part, spread) for part in parts])


def quarter(many):
    """The matrix of so many quarter turns, each moving (x, y) to (-y, x)."""
    if not is_whole(many):
        raise NoNumber("quarter turns are counted by a whole number")
    return tuple([(part, 1) for part in QUARTERS[many % 4]])
