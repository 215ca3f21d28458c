"""Paths: tuples of parts, each a tuple of points and whether it is closed."""

from pageloom.errors import NoPath
from pageloom.exact import in_units, is_less, is_number, lowest
from pageloom.matrices import all_told, moved, need_matrix

PIECES = 8


def is_point(thing):
    """Whether any thing is a point."""
    if not isinstance(thing, tuple) or len(thing) != 2:
        return False
    x, y = thing
    return is_number(x) and is_number(y)


def is_part(thing):
    """Whether any thing is a part of a path."""
    if not isinstance(thing, tuple) or len(thing) != 2:
        return False
    points, is_closed = thing
    if not isinstance(points, tuple) or not points or not isinstance(is_closed, bool):
        return False
    return all([is_point(spot) for spot in points])


def is_path(thing):
    """Whether any thing is a path."""
    return isinstance(thing, tuple) and all([is_part(part) for part in thing])


def need_path(thing):
    """Refuses any thing that is no path."""
    if not is_path(thing):
        raise NoPath("this is no path")


def weighed(numbers, weights, by):
    """The sum of numbers, each as often as its weight tells, divided by a whole number; None with too many figures."""
    wholes, unit = in_units(numbers)
    return lowest(sum([whole * weight for whole, weight in zip(wholes, weights)]), unit * by)


def on_curve(xs, ys, done):
    """The point of a curve behind so many of its pieces, of the four x and y that bend it."""
    left = PIECES - done
    weights = (left ** 3, 3 * left ** 2 * done, 3 * left * done ** 2, done ** 3)
    return all_told([weighed(xs, weights, PIECES ** 3), weighed(ys, weights, PIECES ** 3)])


def eighths(start, one, other, end):
    """A list of eight points of a curve, the last one its end; None where one has too many figures."""
    bends = (start, one, other, end)
    if not all([is_point(spot) for spot in bends]):
        raise NoPath("a curve is made of four points")
    xs = [x for x, y in bends]
    ys = [y for x, y in bends]
    found = [on_curve(xs, ys, done) for done in range(1, PIECES + 1)]
    return None if None in found else found


def moved_part(part, matrix):
    """A part with each point moved by the matrix; None with too many figures."""
    points, is_closed = part
    return all_told([all_told([moved(matrix, x, y) for x, y in points]), is_closed])


def moved_path(path, matrix):
    """A path with each point moved by the matrix; None with too many figures."""
    need_path(path)
    need_matrix(matrix)
    return all_told([moved_part(part, matrix) for part in path])


def ends_of(numbers):
    """The least and the greatest one of a list of numbers."""
    least = greatest = numbers[0]
    for other in numbers:
        if is_less(other, least):
            least = other
        if is_less(greatest, other):
            greatest = other
    return least, greatest


def box_of(path):
    """The least x, the least y, the greatest x and the greatest y of all points of a path; None without any."""
    need_path(path)
    if not path:
        return None
    spots = [spot for points, is_closed in path for spot in points]
    left, right = ends_of([x for x, y in spots])
    low, high = ends_of([y for x, y in spots])
    return left, low, right, high
