"""What lies in a path, and what lies on the lines that are drawn along it.

Lines are reckoned with in units of their own, small enough that all is whole:
a place on the page is then asked in whole numbers alone, without rounding.
"""

from pageloom.errors import NoNumber, NoRule
from pageloom.exact import in_units, is_number, need_number
from pageloom.paths import need_path

RULES = ("whole", "odd")


def is_rule(thing):
    """Whether any thing is a rule of what lies in a path."""
    return thing in RULES


def is_width(thing):
    """Whether any thing is a width of lines."""
    return is_number(thing) and thing[0] >= 0


def lines_round(path):
    """All lines of a path, each part gone round, closed or not: a list of tuples (x, y, to_x, to_y, unit)."""
    lines = []
    for points, is_closed in path:
        for start, end in zip(points, points[1:] + points[:1]):
            wholes, unit = in_units(start + end)
            lines.append(tuple(wholes) + (unit,))
    return lines


def crossings(lines, height):
    """Where lines cross a height, and which way: a list of (top, below, step), each at top / below, below above 0."""
    top, below = height
    found = []
    for x, y, to_x, to_y, unit in lines:
        level = top * unit
        rise = to_y - y
        if y * below <= level < to_y * below:
            step = 1
        elif to_y * below <= level < y * below:
            step = -1
        else:
            continue
        across = x * below * rise + (level - y * below) * (to_x - x)
        found.append((across * step, below * rise * unit * step, step))
    return found


def turns(found, x):
    """How often lines with these crossings go round the place of this x at their height."""
    top, below = x
    return sum([step for across, by, step in found if across * below > top * by])


def is_in(rule, many):
    """Whether a place lies in a path that goes round it so often."""
    return many != 0 if rule == "whole" else many % 2 == 1


def winding(path, x, y):
    """How often a path goes round a place."""
    need_path(path)
    need_number(x)
    need_number(y)
    return turns(crossings(lines_round(path), y), x)


def is_inside(path, rule, x, y):
    """Whether a place lies in a path by a rule."""
    need_path(path)
    if not is_rule(rule):
        raise NoRule("this is no rule")
    return is_in(rule, winding(path, x, y))


def lines_drawn(path, width):
    """The lines of a path that are drawn: a list of tuples (x, y, to_x, to_y, reach, unit), reach half the width."""
    half = (width[0], width[1] * 2)
    lines = []
    for points, is_closed in path:
        # Without a further one to go to, a single point is a line to itself.
        ends = points[1:] + points[:1] if is_closed or len(points) == 1 else points[1:]
        for start, end in zip(points, ends):
            wholes, unit = in_units(start + end + (half,))
            lines.append(tuple(wholes) + (unit,))
    return lines


def is_level(line, y, below):
    """Whether a line comes as near as its reach to the height y / below."""
    from_x, from_y, to_x, to_y, reach, unit = line
    return (min(from_y, to_y) - reach) * below <= y * unit <= (max(from_y, to_y) + reach) * below


def is_near(line, x, y, below):
    """Whether the place (x / below, y / below) is no farther from a line than its reach."""
    from_x, from_y, to_x, to_y, reach, unit = line
    wide, high = (to_x - from_x) * below, (to_y - from_y) * below
    aside, above = x * unit - from_x * below, y * unit - from_y * below
    most = (reach * below) ** 2
    length = wide ** 2 + high ** 2
    along = aside * wide + above * high
    if along <= 0:
        return aside ** 2 + above ** 2 <= most
    if along >= length:
        return (aside - wide) ** 2 + (above - high) ** 2 <= most
    return (aside * high - above * wide) ** 2 <= most * length


def is_near_one(lines, x, y, below):
    """Whether the place (x / below, y / below) is no farther from one of these lines than its reach."""
    for line in lines:
        if is_near(line, x, y, below):
            return True
    return False


def is_on_stroke(path, width, x, y):
    """Whether a place is no farther than half the width from a line of a path that is drawn."""
    need_path(path)
    if not is_width(width):
        raise NoNumber("a width is a number not below 0")
    need_number(x)
    need_number(y)
    (across, up), below = in_units((x, y))
    return is_near_one(lines_drawn(path, width), across, up, below)
