"""What the operators do that draw paths, ink and show pages.

The deeds are called as those of pageloom.sumops are. A path of no parts is no path.
"""

from pageloom.desks import Fault, told
from pageloom.exact import in_units, lowest, plus
from pageloom.frames import Doing, Frame
from pageloom.inking import ERASE, painted
from pageloom.matrices import moved, quarter, then, turned, undone
from pageloom.pages import MOST_INK
from pageloom.paths import box_of, eighths
from pageloom.sumops import ZERO, as_many, is_whole_number

ONE = (1, 1)


def as_numbers(found):
    """A list of operands of the numbers that a sum tells; a fault, where some would have too many figures."""
    return [("number", number) for number in told(found)]


def do_gsave(desk, taken):
    desk.kept = (desk.how, desk.kept)
    return []


def do_grestore(desk, taken):
    if desk.kept is not None:
        desk.how, desk.kept = desk.kept
    return []


def is_flat(matrix):
    """Whether no matrix moves back what this one moves."""
    a, b, c, d, e, f = matrix
    # Reckoned without quotients, however many figures come of it.
    return a[0] * d[0] * b[1] * c[1] == b[0] * c[0] * a[1] * d[1]


def bend(desk, matrix):
    """Puts a matrix ahead of the one in force."""
    if is_flat(matrix):
        raise Fault("zero")
    desk.draw_with("matrix", told(then(matrix, desk.how["matrix"])))
    return []


def do_translate(desk, taken):
    return bend(desk, (ONE, ZERO, ZERO, ONE, taken[0], taken[1]))


def do_scale(desk, taken):
    return bend(desk, (taken[0], ZERO, ZERO, taken[1], ZERO, ZERO))


def do_rotate(desk, taken):
    if not is_whole_number(taken[0]):
        raise Fault("range")
    return bend(desk, quarter(taken[0][0]))


def do_concat(desk, taken):
    row = desk.row_of(taken[0])
    if len(row) != 6:
        raise Fault("range")
    if not all([kind == "number" for kind, what in row]):
        raise Fault("kind")
    return bend(desk, tuple([number for kind, number in row]))


def do_transform(desk, taken):
    return as_numbers(moved(desk.how["matrix"], taken[0], taken[1]))


def moved_back(desk, x, y):
    """Operands of the point that the matrix in force moves to (x, y)."""
    return as_numbers(moved(told(undone(desk.how["matrix"])), x, y))


def do_itransform(desk, taken):
    return moved_back(desk, taken[0], taken[1])


def need_path_drawn(desk):
    """A fault without a path."""
    if not desk.how["path"]:
        raise Fault("point")


def place_of(path):
    """The point where a path is."""
    points, is_closed = path[-1]
    return points[0] if is_closed else points[-1]


def spot_at(desk, x, y):
    """The point to which the matrix in force moves (x, y)."""
    return told(moved(desk.how["matrix"], x, y))


def spot_further(desk, x, y):
    """The point as far on from where the path is as the matrix in force moves (x, y) without its last two numbers."""
    from_x, from_y = place_of(desk.how["path"])
    by_x, by_y = told(turned(desk.how["matrix"], x, y))
    return told(plus(from_x, by_x)), told(plus(from_y, by_y))


def begin_part(desk, points, is_closed):
    """Begins a new part of the path; a part of one point ahead of it that is not closed goes."""
    path = desk.how["path"]
    if path and len(path[-1][0]) == 1 and not path[-1][1]:
        path = path[:-1]
    desk.draw_with("path", path + ((points, is_closed),))


def draw_lines(desk, spots):
    """Draws lines to points, one behind the other."""
    path = desk.how["path"]
    points, is_closed = path[-1]
    if is_closed:
        path = path + (((points[0],) + spots, False),)
    else:
        path = path[:-1] + ((points + spots, False),)
    desk.draw_with("path", path)


def do_newpath(desk, taken):
    desk.draw_with("path", ())
    return []


def do_moveto(desk, taken):
    begin_part(desk, (spot_at(desk, taken[0], taken[1]),), False)
    return []


def do_lineto(desk, taken):
    need_path_drawn(desk)
    draw_lines(desk, (spot_at(desk, taken[0], taken[1]),))
    return []


def do_rmoveto(desk, taken):
    need_path_drawn(desk)
    begin_part(desk, (spot_further(desk, taken[0], taken[1]),), False)
    return []


def do_rlineto(desk, taken):
    need_path_drawn(desk)
    draw_lines(desk, (spot_further(desk, taken[0], taken[1]),))
    return []


def do_curveto(desk, taken):
    need_path_drawn(desk)
    x, y, other_x, other_y, end_x, end_y = taken
    one = spot_at(desk, x, y)
    other = spot_at(desk, other_x, other_y)
    end = spot_at(desk, end_x, end_y)
    draw_lines(desk, tuple(told(eighths(place_of(desk.how["path"]), one, other, end))))
    return []


def do_closepath(desk, taken):
    path = desk.how["path"]
    if path:
        desk.draw_with("path", path[:-1] + ((path[-1][0], True),))
    return []


def do_rect(desk, taken):
    x, y, wide, high = taken
    to_x = told(plus(x, wide))
    to_y = told(plus(y, high))
    corners = ((x, y), (to_x, y), (to_x, to_y), (x, to_y))
    begin_part(desk, tuple([spot_at(desk, at_x, at_y) for at_x, at_y in corners]), True)
    return []


def do_currentpoint(desk, taken):
    need_path_drawn(desk)
    x, y = place_of(desk.how["path"])
    return moved_back(desk, x, y)


def do_pathbox(desk, taken):
    need_path_drawn(desk)
    return as_numbers(box_of(desk.how["path"]))


def do_setink(desk, taken):
    ink = as_many(taken[0])
    if ink > MOST_INK:
        raise Fault("range")
    desk.draw_with("ink", ink)
    return []


def do_setwidth(desk, taken):
    if taken[0][0] < 0:
        raise Fault("range")
    desk.draw_with("width", taken[0])
    return []


def ink_path(desk, kind, way):
    """Puts a deed of the path, if there is one, and then there is none."""
    how = desk.how
    if how["path"]:
        desk.add_ink((kind, how["path"], way, how["ink"], how["clips"]))
        desk.draw_with("path", ())
    return []


def do_fill(desk, taken):
    return ink_path(desk, "fill", "whole")


def do_eofill(desk, taken):
    return ink_path(desk, "fill", "odd")


def do_stroke(desk, taken):
    return ink_path(desk, "stroke", desk.how["width"])


def add_clip(desk, rule):
    """Clips by the path from now on, too."""
    desk.draw_with("clips", desk.how["clips"] + ((desk.how["path"], rule),))
    return []


def do_clip(desk, taken):
    return add_clip(desk, "whole")


def do_eoclip(desk, taken):
    return add_clip(desk, "odd")


def do_initclip(desk, taken):
    desk.draw_with("clips", ())
    return []


def do_erase(desk, taken):
    desk.add_ink(ERASE)
    return []


def page_now(desk):
    """The page as it is."""
    return painted(list(desk.inkings), desk.wide, desk.high)


def do_showpage(desk, taken):
    desk.shown = desk.shown + (page_now(desk),)
    desk.inkings = ()
    return []


def letter_of(desk, sign):
    """The width and the proc of a letter; a fault without it, or of another thing."""
    letters = desk.how["letters"]
    if letters is None or sign not in desk.held[letters]:
        raise Fault("undefined")
    kind, what = desk.held[letters][sign]
    if kind != "array":
        raise Fault("kind")
    row = desk.row_of(what)
    if [part_kind for part_kind, part in row] != ["number", "proc"]:
        raise Fault("kind")
    return row[0][1], row[1][1]


class Letters(Frame):
    """A text that is shown, letter by letter."""

    def __init__(self, text):
        self.text = text
        self.at = 0
        # While a letter is done, how was drawn and what was kept ahead of it.
        self.ahead = None
        self.width = ZERO

    def goes_on(self, desk):
        if self.ahead is not None:
            self.broken(desk)
            begin_part(desk, (spot_further(desk, self.width, ZERO),), False)
        return self.at < len(self.text)

    def begin(self, desk):
        """Begins the next letter."""
        self.width, proc = letter_of(desk, self.text[self.at])
        self.at += 1
        self.ahead = (desk.how, desk.kept)
        matrix = desk.how["matrix"][:4] + place_of(desk.how["path"])
        desk.draw_with("matrix", matrix)
        desk.draw_with("path", ())
        desk.frames.append(Doing(proc))

    def broken(self, desk):
        """Brings back how was drawn ahead of a letter that is over."""
        if self.ahead is not None:
            desk.how, desk.kept = self.ahead
            self.ahead = None


def do_setfont(desk, taken):
    desk.draw_with("letters", taken[0])
    return []


def do_show(desk, taken):
    need_path_drawn(desk)
    desk.frames.append(Letters(taken[0]))
    return []


def do_stringwidth(desk, taken):
    wholes, unit = in_units([letter_of(desk, sign)[0] for sign in taken[0]])
    return as_numbers([told(lowest(sum(wholes), unit))])


DRAW_DEEDS = {
    "gsave": do_gsave,
    "grestore": do_grestore,
    "translate": do_translate,
    "scale": do_scale,
    "rotate": do_rotate,
    "concat": do_concat,
    "transform": do_transform,
    "itransform": do_itransform,
    "newpath": do_newpath,
    "moveto": do_moveto,
    "lineto": do_lineto,
    "rmoveto": do_rmoveto,
    "rlineto": do_rlineto,
    "curveto": do_curveto,
    "closepath": do_closepath,
    "rect": do_rect,
    "currentpoint": do_currentpoint,
    "pathbox": do_pathbox,
    "setink": do_setink,
    "setwidth": do_setwidth,
    "fill": do_fill,
    "eofill": do_eofill,
    "stroke": do_stroke,
    "clip": do_clip,
    "eoclip": do_eoclip,
    "initclip": do_initclip,
    "erase": do_erase,
    "showpage": do_showpage,
    "setfont": do_setfont,
    "show": do_show,
    "stringwidth": do_stringwidth,
}


def do_drawing(desk, name, taken):
    """Does the deed of one of these operators, and tells a list of the operands that it puts."""
    deed = DRAW_DEEDS[name]
    return deed(desk, taken)
