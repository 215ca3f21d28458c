"""Points 6.1 and 6.2, points 0.2 (b), (c) and (i), and what 0.3 says of them."""

import copy
import inspect
import random
import unittest
from fractions import Fraction

from pageloom import inking
from pageloom.errors import NoDeeds, NoSize
from pageloom.inking import hidden, is_deed, painted, who_inked
from pageloom.pages import beside, is_page, page_text, stacked
from pageloom.paths import moved_path
from pageloom.shapes import is_inside, is_on_stroke
from samples import (MOST, NO_NUMBERS, NO_PATHS, NO_RULES, ODD_THINGS, SQUARE, box, num, nums, part, random_path, random_value,
                     turned_round)

ERASE = ("erase",)
HALF = Fraction(1, 2)
FILL = ("fill", SQUARE, "whole", 3, ())
STROKE = ("stroke", SQUARE, num(1), 4, ((SQUARE, "odd"),))
NO_WHOLES = (True, False, None, "", "1", (), [], (1, 1), [1], ((1,),))


def fill(*parts, ink=1, rule="whole", clips=()):
    return ("fill", parts, rule, ink, clips)


def stroke(*parts, width=1, ink=1, clips=()):
    return ("stroke", parts, num(width), ink, clips)


def inks_cell(deed, x, y):
    """Whether a deed inks a cell, by what is told of its middle."""
    if deed == ERASE:
        return True
    kind, path, how, ink, clips = deed
    x, y = num(x + HALF), num(y + HALF)
    reached = is_inside(path, how, x, y) if kind == "fill" else is_on_stroke(path, how, x, y)
    return reached and all(is_inside(clip, rule, x, y) for clip, rule in clips)


def told_inker(deeds, x, y):
    found = [at for at, deed in enumerate(deeds) if inks_cell(deed, x, y)]
    return found[-1] if found else None


def told_ink(deeds, x, y):
    at = told_inker(deeds, x, y)
    return 0 if at is None or deeds[at] == ERASE else deeds[at][3]


def random_deed(chance):
    if chance.random() < 0.08:
        return ERASE
    path = random_path(chance, far=8)
    clips = []
    for times in range(chance.choice((0, 0, 0, 1, 1, 2))):
        clips.append((random_path(chance, 2, far=9), chance.choice(("whole", "odd"))))
    clips = tuple(clips)
    ink = chance.randrange(16)
    if chance.random() < 0.4:
        return ("stroke", path, num(abs(random_value(chance, 3))), ink, clips)
    return ("fill", path, chance.choice(("whole", "odd")), ink, clips)


def random_deeds(chance, most=6):
    return [random_deed(chance) for times in range(chance.randrange(most + 1))]


def shifted(deed, x, y):
    if deed == ERASE:
        return deed
    kind, path, how, ink, clips = deed
    by = nums(1, 0, 0, 1, x, y)
    return kind, moved_path(path, by), how, ink, tuple((moved_path(clip, by), rule) for clip, rule in clips)


class IsDeed(unittest.TestCase):
    def test_deeds(self):
        for thing in (ERASE, FILL, STROKE, fill(), fill(rule="odd"), stroke(), fill(ink=0), fill(ink=15), stroke(width=0),
                      stroke(width=Fraction(1, MOST)), stroke(width=MOST), fill(clips=(((), "whole"),)),
                      fill(part((0, 0)), clips=((SQUARE, "odd"), ((), "whole"), (SQUARE, "odd")))):
            self.assertIs(is_deed(thing), True)
        chance = random.Random(61)
        for times in range(100):
            self.assertIs(is_deed(random_deed(chance)), True)

    def test_all_else(self):
        for at, thing in enumerate(ODD_THINGS + (
            (), "erase", ["erase"], ("erase", ()), ("erase", "erase"), ("Erase",), (("erase",),), ("fill",), ("stroke",),
            FILL[:4], FILL + ((),), STROKE[:4], list(FILL), (FILL,), [ERASE], ("erase",) + FILL[1:], ("erase",) + STROKE[1:],
        )):
            with self.subTest(at=at):
                self.assertIs(is_deed(thing), False)

    def spoilt(self, deed, at, wrong):
        self.assertIs(is_deed(deed[:at] + (wrong,) + deed[at + 1:]), False, (deed, at, wrong))

    def test_kind_spoilt(self):
        for wrong in ("", "Fill", "fill ", "clip", None, 0, True, ("fill",), ["stroke"], "fillstroke"):
            self.spoilt(FILL, 0, wrong)
            self.spoilt(STROKE, 0, wrong)
        self.spoilt(FILL, 0, "stroke")
        self.spoilt(STROKE, 0, "fill")

    def test_path_spoilt(self):
        for wrong in NO_PATHS:
            self.spoilt(FILL, 1, wrong)
            self.spoilt(STROKE, 1, wrong)

    def test_how_spoilt(self):
        for wrong in NO_RULES + NO_NUMBERS + (num(1),):
            self.spoilt(FILL, 2, wrong)
        for wrong in NO_NUMBERS + ("whole", "odd", num(-1), num(-1, MOST)):
            self.spoilt(STROKE, 2, wrong)

    def test_ink_spoilt(self):
        for wrong in NO_WHOLES + (-1, 16, 100, -MOST, MOST):
            self.spoilt(FILL, 3, wrong)
            self.spoilt(STROKE, 3, wrong)

    def test_clips_spoilt(self):
        clip = (SQUARE, "odd")
        for wrong in (None, 0, True, "", "odd", [], [clip], clip, SQUARE, ((),), (SQUARE,), (None,), (clip, None), (clip[:1],),
                      (clip + ("odd",),), (list(clip),), (("odd", SQUARE),), (clip, (SQUARE, "even")), ((SQUARE, num(1)), clip)):
            self.spoilt(FILL, 4, wrong)
            self.spoilt(STROKE, 4, wrong)
        for wrong in NO_PATHS:
            self.spoilt(FILL, 4, ((wrong, "odd"),))
            self.spoilt(STROKE, 4, (clip, (wrong, "odd")))
        for wrong in NO_RULES:
            self.spoilt(FILL, 4, ((SQUARE, wrong),))


class Pictures(unittest.TestCase):
    def paints(self, deeds, *rows):
        page = painted(deeds, len(rows[0]), len(rows))
        self.assertEqual(page_text(page).split(), list(rows))
        for y, row in enumerate(rows):
            for x, sign in enumerate(row):
                at = who_inked(deeds, x, y)
                ink = 0 if at is None or deeds[at] == ERASE else deeds[at][3]
                self.assertEqual(ink, int(sign, 16))

    def test_nothing(self):
        self.paints([], "000", "000")
        self.paints([fill(), stroke(), fill(part((0, 0)))], "000", "000")

    def test_a_fill(self):
        self.paints([fill(box(1, 1, 4, 3))], "00000", "01110", "01110", "00000")
        self.paints([fill(box(1, 1, 4, 3, closed=False), ink=15)], "00000", "0fff0", "0fff0", "00000")
        self.paints([fill(box(-5, -5, 2, 2), ink=10)], "aa0", "aa0", "000")

    def test_the_first_row_is_the_top_one(self):
        self.paints([fill(box(0, 0, 3, 1)), fill(box(0, 1, 1, 2), ink=2)], "111", "200", "000")

    def test_both_rules(self):
        ring = (box(0, 0, 5, 5), box(1, 1, 4, 4))
        back = (box(0, 0, 5, 5), turned_round(box(1, 1, 4, 4)))
        self.paints([fill(*ring)], "11111", "11111", "11111", "11111", "11111")
        self.paints([fill(*ring, rule="odd")], "11111", "10001", "10001", "10001", "11111")
        self.paints([fill(*back)], "11111", "10001", "10001", "10001", "11111")

    def test_middles_right_on_a_line(self):
        self.paints([fill(box(HALF, HALF, 2 + HALF, 2 + HALF))], "1100", "1100", "0000", "0000")
        self.paints([fill(turned_round(box(HALF, HALF, 2 + HALF, 2 + HALF)))], "1100", "1100", "0000", "0000")
        self.paints([fill(part((0, 0), (4, 4), (0, 4)))], "0000", "1000", "1100", "1110")
        self.paints([fill(part((0, 0), (4, 0), (4, 4)))], "1111", "0111", "0011", "0001")

    def test_strokes(self):
        self.paints([stroke(part((1, 1), (4, 1)))], "01110", "01110", "00000")
        self.paints([stroke(part((1, 1), (4, 1)), width=Fraction(99, 100))], "00000", "00000", "00000")
        self.paints([stroke(part((1 + HALF, 1 + HALF), (4, 1 + HALF)), ink=7)], "00000", "07777", "00000")
        self.paints([stroke(part((1 + HALF, 1 + HALF), (Fraction(39, 10), 1 + HALF)), ink=7)], "00000", "07770", "00000")
        self.paints([stroke(part((1 + HALF, HALF), (1 + HALF, 2 + HALF)), width=2)], "1110", "1110", "1110", "0100")
        self.paints([stroke(part((2 + HALF, 2 + HALF)), width=4)], "00100", "01110", "11111", "01110", "00100")

    def test_strokes_of_open_and_closed_parts(self):
        points = ((HALF, HALF), (3 + HALF, HALF), (3 + HALF, 3 + HALF))
        self.paints([stroke(part(*points), width=0)], "1111", "0001", "0001", "0001")
        self.paints([stroke(part(*points, closed=True), width=0)], "1111", "0101", "0011", "0001")

    def test_a_width_of_0(self):
        self.paints([stroke(part((HALF, HALF), (2 + HALF, HALF)), width=0)], "1110", "0000")
        self.paints([stroke(part((0, 0), (4, 4)), width=0)], "1000", "0100", "0010", "0001")
        self.paints([stroke(part((1, 0), (1, 2)), width=0)], "000", "000")

    def test_over_one_another(self):
        self.paints([fill(box(0, 0, 3, 3), ink=5), fill(box(1, 1, 4, 4), ink=9)], "5550", "5999", "5999", "0999")
        self.paints([fill(box(1, 1, 4, 4), ink=9), fill(box(0, 0, 3, 3), ink=5)], "5550", "5559", "5559", "0999")

    def test_ink_0_inks(self):
        self.paints([fill(box(0, 0, 3, 3), ink=5), fill(box(1, 1, 2, 2), ink=0)], "555", "505", "555")
        self.assertEqual(who_inked([fill(box(0, 0, 3, 3), ink=5), fill(box(1, 1, 2, 2), ink=0)], 1, 1), 1)

    def test_erase(self):
        self.paints([fill(box(0, 0, 3, 3), ink=5), ERASE], "000", "000")
        self.paints([fill(box(0, 0, 3, 3), ink=5), ERASE, fill(box(1, 0, 2, 1), ink=2)], "020", "000")
        self.paints([ERASE], "00")

    def test_clips(self):
        wide = box(0, 0, 5, 3)
        one, other = ((box(1, 0, 5, 3),), "whole"), ((box(0, 1, 3, 3),), "odd")
        self.paints([fill(wide, clips=(one,))], "01111", "01111", "01111")
        self.paints([fill(wide, clips=(one, other))], "00000", "01100", "01100")
        self.paints([fill(wide, clips=(other, one))], "00000", "01100", "01100")
        self.paints([stroke(part((0, HALF), (5, HALF)), clips=(one,))], "01111", "00000", "00000")
        self.paints([fill(wide, clips=(((), "whole"),))], "00000", "00000")
        self.paints([fill(wide, clips=(one, ((), "odd")))], "00000", "00000")

    def test_clips_by_both_rules(self):
        ring = (box(0, 0, 5, 5), box(1, 1, 4, 4))
        self.paints([fill(box(0, 0, 5, 5), clips=((ring, "odd"),))], "11111", "10001", "10001", "10001", "11111")
        self.paints([fill(box(0, 0, 5, 5), clips=((ring, "whole"),))], "11111", "11111", "11111", "11111", "11111")

    def test_clips_are_those_of_their_deed(self):
        one = ((box(0, 0, 1, 2),), "whole")
        self.paints([fill(box(0, 0, 3, 2), ink=2, clips=(one,)), fill(box(2, 0, 3, 2), ink=3)], "203", "203")


class Painted(unittest.TestCase):
    def test_cell_by_cell(self):
        chance = random.Random(62)
        inks = set()
        for times in range(60):
            deeds = random_deeds(chance)
            left, top = chance.randrange(-6, 4), chance.randrange(-6, 4)
            page = painted(deeds, 7, 5, left=left, top=top)
            told = tuple(tuple(told_ink(deeds, x, y) for x in range(left, left + 7)) for y in range(top, top + 5))
            self.assertEqual(page, told)
            inks.update(ink for row in page for ink in row)
            for x, y in ((left, top), (left + 3, top + 2), (left + 6, top + 4)):
                self.assertEqual(who_inked(deeds, x, y), told_inker(deeds, x, y))
        self.assertGreater(len(inks), 12)

    def test_windows_put_together(self):
        chance = random.Random(63)
        for times in range(40):
            deeds = random_deeds(chance)
            page = painted(deeds, 9, 8, left=-3, top=-2)
            across, down = chance.randrange(1, 9), chance.randrange(1, 8)
            upper = beside(painted(deeds, across, down, left=-3, top=-2),
                           painted(deeds, 9 - across, down, left=across - 3, top=-2))
            lower = beside(painted(deeds, across, 8 - down, left=-3, top=down - 2),
                           painted(deeds, 9 - across, 8 - down, left=across - 3, top=down - 2))
            self.assertEqual(stacked(upper, lower), page)

    def test_shifted_by_whole_cells(self):
        chance = random.Random(64)
        for times in range(40):
            deeds = random_deeds(chance)
            page = painted(deeds, 9, 8, left=-2, top=-1)
            x, y = chance.randrange(-900, 900), chance.randrange(-900, 900)
            moved = [shifted(deed, x, y) for deed in deeds]
            self.assertEqual(painted(moved, 9, 8, left=x - 2, top=y - 1), page)
            self.assertEqual(who_inked(moved, x, y), who_inked(deeds, 0, 0))

    def test_left_and_top(self):
        deeds = [fill(box(2, 1, 3, 2), ink=8)]
        self.assertEqual(painted(deeds, 2, 2, left=2, top=1), ((8, 0), (0, 0)))
        self.assertEqual(painted(deeds, 2, 2, left=1, top=1), ((0, 8), (0, 0)))
        self.assertEqual(painted(deeds, 2, 2, left=2), ((0, 0), (8, 0)))
        self.assertEqual(painted(deeds, 3, 1, top=1), ((0, 0, 8),))
        self.assertEqual(painted(deeds, 2, 2, left=-5, top=-5), ((0, 0), (0, 0)))

    def test_far_off(self):
        for far in (-999, 999):
            deeds = [fill(box(far, far, far + 1, far + 1), ink=6)]
            self.assertEqual(painted(deeds, 2, 2, left=far, top=far), ((6, 0), (0, 0)))
            self.assertEqual(who_inked(deeds, far, far), 0)
            self.assertIsNone(who_inked(deeds, far, -far))
            self.assertIsNone(who_inked(deeds, 0, 0))

    def test_all_sizes(self):
        deeds = [fill(box(-1, -1, 100, 100), ink=1), stroke(part((0, 0), (64, 64)), ink=2)]
        for wide, high in ((1, 1), (1, 64), (64, 1), (64, 64), (63, 2)):
            page = painted(deeds, wide, high)
            self.assertTrue(is_page(page))
            self.assertEqual((len(page), len(page[0])), (high, wide))
            self.assertEqual(page[0][0], 2)
            self.assertEqual(page[-1][-1], 2 if wide == high else 1)
        self.assertEqual(painted([], 64, 64), ((0,) * 64,) * 64)
        self.assertEqual(painted([ERASE], 1, 1, left=999, top=-999), ((0,),))

    def test_many_figures(self):
        deeds = [fill(box(-MOST, -MOST, MOST, MOST), ink=1), fill(part((0, 0), (MOST, 1), (MOST, 2)), ink=2),
                 stroke(part((-MOST, 3), (MOST, 3)), width=Fraction(MOST, MOST - 1), ink=3)]
        self.assertEqual(painted(deeds, 3, 5), ((1,) * 3, (1,) * 3, (3,) * 3, (3,) * 3, (1,) * 3))


class WhoInked(unittest.TestCase):
    def test_the_last_one(self):
        deeds = [fill(box(0, 0, 3, 3)), fill(box(1, 0, 3, 3)), fill(box(2, 0, 3, 3)), fill(box(1, 0, 2, 3))]
        self.assertEqual([who_inked(deeds, x, 1) for x in range(-1, 4)], [None, 0, 3, 2, None])

    def test_erase_inks_all(self):
        deeds = [fill(box(0, 0, 3, 3)), ERASE, fill(box(1, 0, 2, 3))]
        self.assertEqual([who_inked(deeds, x, 1) for x in (-999, 0, 1, 2, 999)], [1, 1, 2, 1, 1])

    def test_without(self):
        self.assertIsNone(who_inked([], 0, 0))
        self.assertIsNone(who_inked([fill(), stroke()], 0, 0))


class Hidden(unittest.TestCase):
    def test_by_hand(self):
        deeds = [fill(box(0, 0, 3, 3)), fill(box(1, 1, 2, 2)), fill(box(1, 1, 3, 3)), fill(), fill(box(9, 9, 12, 12)), stroke()]
        self.assertEqual(hidden(deeds, 10, 10), [1, 3, 5])
        self.assertEqual(hidden(deeds, 9, 9), [1, 3, 4, 5])
        self.assertEqual(hidden(deeds, 1, 1), [1, 2, 3, 4, 5])
        self.assertEqual(hidden(deeds + [ERASE], 10, 10), [0, 1, 2, 3, 4, 5])
        self.assertEqual(hidden([ERASE, ERASE], 10, 10), [0])
        self.assertEqual(hidden([], 1, 1), [])

    def test_only_cells_of_the_page_count(self):
        self.assertEqual(hidden([fill(box(-3, -3, 0, 0)), fill(box(5, 0, 6, 1)), fill(box(0, 4, 1, 5))], 5, 4), [0, 1, 2])
        self.assertEqual(hidden([fill(box(5, 0, 6, 1)), fill(box(0, 4, 1, 5))], 6, 5), [])

    def test_an_ink_alike_hides_none(self):
        self.assertEqual(hidden([ERASE, fill(box(0, 0, 1, 1), ink=0)], 2, 2), [])

    def test_the_page_stays_without_them(self):
        chance = random.Random(65)
        some = 0
        for times in range(60):
            deeds = random_deeds(chance, 9)
            found = hidden(deeds, 6, 7)
            self.assertEqual(found, sorted(set(found)))
            some += len(found)
            kept = [deed for at, deed in enumerate(deeds) if at not in found]
            self.assertEqual(painted(kept, 6, 7), painted(deeds, 6, 7))
            last = {told_inker(deeds, x, y) for x in range(6) for y in range(7)}
            self.assertEqual(set(range(len(deeds))) - set(found), last - {None})
            self.assertEqual(hidden(kept, 6, 7), [])
        self.assertGreater(some, 50)

    def test_a_new_list_each_time(self):
        deeds = [fill()]
        self.assertIs(type(hidden(deeds, 1, 1)), list)
        hidden(deeds, 1, 1).clear()
        self.assertEqual(hidden(deeds, 1, 1), [0])


class Refusals(unittest.TestCase):
    def no_deeds(self, thing):
        self.assertRaises(NoDeeds, painted, thing, 4, 4)
        self.assertRaises(NoDeeds, who_inked, thing, 0, 0)
        self.assertRaises(NoDeeds, hidden, thing, 4, 4)
        self.assertRaises(NoDeeds, painted, thing, 0, None)
        self.assertRaises(NoDeeds, painted, thing, 4, 4, left=1000, top=True)
        self.assertRaises(NoDeeds, who_inked, thing, 1000, None)
        self.assertRaises(NoDeeds, hidden, thing, 65, True)

    def test_no_list_of_deeds(self):
        for thing in ODD_THINGS:
            if thing != []:
                self.no_deeds(thing)
            self.no_deeds([thing])
            self.no_deeds([FILL, thing])
            self.no_deeds([thing, ERASE])
        for thing in ((), (FILL,), FILL, ERASE, "erase", [list(FILL)], [[FILL]], [FILL[:4]], [FILL[:3] + (True, ())]):
            self.no_deeds(thing)

    def test_no_size(self):
        for wrong in NO_WHOLES + (0, 65, -1, -64, 1000, MOST):
            for deeds in ([], [FILL]):
                self.assertRaises(NoSize, painted, deeds, wrong, 4)
                self.assertRaises(NoSize, painted, deeds, 4, wrong)
                self.assertRaises(NoSize, hidden, deeds, wrong, 4)
                self.assertRaises(NoSize, hidden, deeds, 4, wrong)

    def test_no_place(self):
        for wrong in NO_WHOLES + (-1000, 1000, MOST, -MOST):
            for deeds in ([], [FILL]):
                self.assertRaises(NoSize, painted, deeds, 4, 4, left=wrong)
                self.assertRaises(NoSize, painted, deeds, 4, 4, top=wrong)
                self.assertRaises(NoSize, who_inked, deeds, wrong, 0)
                self.assertRaises(NoSize, who_inked, deeds, 0, wrong)


class AsPromised(unittest.TestCase):
    def test_arguments(self):
        empty = inspect.Parameter.empty
        for name, many in (("is_deed", 1), ("who_inked", 3), ("hidden", 3)):
            told = inspect.signature(getattr(inking, name)).parameters.values()
            self.assertEqual([kept.default for kept in told], [empty] * many)
        told = inspect.signature(painted).parameters
        self.assertEqual([kept.default for kept in told.values()], [empty, empty, empty, 0, 0])
        for name in ("left", "top"):
            self.assertEqual(told[name].kind, inspect.Parameter.KEYWORD_ONLY)
        self.assertRaises(TypeError, painted, [], 1, 1, 0, 0)

    def test_kinds(self):
        self.assertTrue(is_page(painted([FILL, STROKE, ERASE, STROKE], 5, 6)))
        self.assertIs(type(who_inked([FILL], 1, 1)), int)

    def test_what_is_handed_in_stays(self):
        deeds = [FILL, STROKE, ERASE, FILL, fill(), stroke(part((1, 1), (3, 5)))]
        kept = copy.deepcopy(deeds)
        painted(deeds, 5, 5)
        who_inked(deeds, 2, 2)
        hidden(deeds, 5, 5)
        self.assertEqual(deeds, kept)
        wrong = [list(FILL), [ERASE]]
        again = copy.deepcopy(wrong)
        self.assertRaises(NoDeeds, painted, wrong, 5, 5)
        self.assertEqual(wrong, again)

    def test_lists_are_not_kept(self):
        deeds = [FILL]
        page = painted(deeds, 5, 5)
        deeds.append(ERASE)
        self.assertNotEqual(painted(deeds, 5, 5), page)
        self.assertEqual(hidden(deeds, 5, 5), [0])
        deeds.pop()
        self.assertEqual(painted(deeds, 5, 5), page)
        self.assertEqual(hidden(deeds, 5, 5), [])


if __name__ == "__main__":
    unittest.main()
