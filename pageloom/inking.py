"""Deeds of ink, and which cells they ink."""

from pageloom.errors import NoDeeds, NoSize
from pageloom.exact import is_within
from pageloom.pages import is_ink, is_side
from pageloom.paths import is_path
from pageloom.shapes import crossings, is_in, is_level, is_near_one, is_rule, is_width, lines_drawn, lines_round, turns

FARTHEST = 999
ERASE = ("erase",)


def is_clip(thing):
    """Whether any thing is a clip of a deed."""
    if not isinstance(thing, tuple) or len(thing) != 2:
        return False
    path, rule = thing
    return is_path(path) and is_rule(rule)


def is_deed(thing):
    """Whether any thing is a deed of ink."""
    if thing == ERASE:
        return True
    if not isinstance(thing, tuple) or len(thing) != 5:
        return False
    kind, path, how, ink, clips = thing
    if kind == "fill":
        is_how = is_rule(how)
    else:
        is_how = kind == "stroke" and is_width(how)
    if not is_how or not is_path(path) or not is_ink(ink) or not isinstance(clips, tuple):
        return False
    return all([is_clip(clip) for clip in clips])


def need_deeds(thing):
    """Refuses any thing that is no list of deeds."""
    if not isinstance(thing, list) or not all([is_deed(deed) for deed in thing]):
        raise NoDeeds("this is no list of deeds of ink")


def need_sides(wide, high):
    """Refuses what a page can not have as its cells along the sides."""
    if not is_side(wide) or not is_side(high):
        raise NoSize("a page has from 1 to 64 cells either way")


def need_place(x, y):
    """Refuses what is not the place of a cell."""
    if not is_within(x, -FARTHEST, FARTHEST) or not is_within(y, -FARTHEST, FARTHEST):
        raise NoSize("a place is told by whole numbers from -999 to 999")


def shapes_of(deed):
    """The shapes in all of which a cell's middle has to lie to be inked: a list of (rule or stroke, lines)."""
    if deed == ERASE:
        return []
    kind, path, how, ink, clips = deed
    first = (how, lines_round(path)) if kind == "fill" else (kind, lines_drawn(path, how))
    return [first] + [(rule, lines_round(around)) for around, rule in clips]


def columns_in(shape, y, columns):
    """Those of a list of columns in whose cells of the row y the middle lies in a shape."""
    how, lines = shape
    # Twice as fine as the cells, the middles have whole numbers.
    up = 2 * y + 1
    if how == "stroke":
        near = [line for line in lines if is_level(line, up, 2)]
        return [x for x in columns if is_near_one(near, 2 * x + 1, up, 2)]
    found = crossings(lines, (up, 2))
    # Most shapes reach few rows, and where no line crosses the row there is no column to ask.
    return [x for x in columns if is_in(how, turns(found, (2 * x + 1, 2)))] if found else []


def columns_in_all(shapes, y, columns):
    """Those of a list of columns in whose cells of the row y the middle lies in all shapes."""
    for shape in shapes:
        if not columns:
            break
        columns = columns_in(shape, y, columns)
    return columns


def row_inkers(shapes, y, left, wide):
    """For each cell of a row the number of the last deed that inks it, None without; by the shapes of each deed."""
    row = [None] * wide
    bare = list(range(left, left + wide))
    # Gone from the last deed back, the first one met that inks a cell is the last one that does.
    for at in reversed(range(len(shapes))):
        for x in columns_in_all(shapes[at], y, bare):
            row[x - left] = at
        bare = [x for x in bare if row[x - left] is None]
    return row


def inkers(deeds, wide, high, left, top):
    """The rows of a window, a list of lists: for each cell the number of the last deed that inks it, None without."""
    shapes = [shapes_of(deed) for deed in deeds]
    return [row_inkers(shapes, y, left, wide) for y in range(top, top + high)]


def ink_by(deeds, at):
    """The ink of the deed of this number; that of a bare cell for None."""
    if at is None or deeds[at] == ERASE:
        return 0
    return deeds[at][3]


def painted(deeds, wide, high, *, left=0, top=0):
    """The page that deeds paint, of so many cells from left and top on."""
    need_deeds(deeds)
    need_sides(wide, high)
    need_place(left, top)
    rows = inkers(deeds, wide, high, left, top)
    return tuple([tuple([ink_by(deeds, at) for at in row]) for row in rows])


def who_inked(deeds, x, y):
    """The number of the last deed that inks a cell; None without one."""
    need_deeds(deeds)
    need_place(x, y)
    return inkers(deeds, 1, 1, x, y)[0][0]


def hidden(deeds, wide, high):
    """A rising list of the numbers of all deeds that inked no cell of the page last."""
    need_deeds(deeds)
    need_sides(wide, high)
    seen = {at: True for row in inkers(deeds, wide, high, 0, 0) for at in row}
    return [at for at in range(len(deeds)) if at not in seen]
