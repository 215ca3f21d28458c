"""Points 13.1, 13.2, 14.1, 15.1 and 15.2, with what 8.2 says of shows that fault."""

import random
import unittest
from fractions import Fraction

from benches import OF_KIND, Bench, all_of, do_on, stack_of
from pageloom.desks import Desk
from pageloom.exact import text_of
from pageloom.inking import is_deed, painted
from pageloom.matrices import point, quarter, then, undone
from pageloom.paths import box_of, eighths
from samples import IDENTITY, MOST, box, num, nums, part

LETTERS = "/l dict def l /a [ 2 { 0 0 1 1 rect fill } ] put l /b [ 1:2 { 3 setink 1 1 translate } ] put l setfont "


class Drawing(Bench):
    def check_path(self, text, *parts):
        """A program ends well and leaves no operands and a path of these parts."""
        with self.subTest(text=text):
            desk = self.desk_behind(text)
            self.assertEqual(desk.how["path"], parts)
            self.assertEqual(desk.operands, [])

    def check_matrix(self, text, matrix):
        with self.subTest(text=text):
            self.assertEqual(self.desk_behind(text).how["matrix"], matrix)

    def check_deeds(self, text, *deeds):
        with self.subTest(text=text):
            desk = self.desk_behind(text)
            self.assertEqual(desk.inkings, deeds)
            self.assertTrue(all(is_deed(deed) for deed in deeds))
            self.assertEqual(desk.operands, [])
            return desk


class How(Drawing):
    def test_at_first(self):
        self.assertEqual(Desk(3, 4).how, {
            "matrix": IDENTITY, "path": (), "ink": 1, "width": (1, 1), "clips": (), "letters": None,
        })

    def test_gsave_keeps_all(self):
        for text in ("3 4 translate", "2 setink", "5 setwidth", "1 2 moveto 3 4 lineto", "newpath", "clip", "initclip", "dict setfont"):
            with self.subTest(text=text):
                desk = self.desk_behind("9 setink 1 1 moveto 1 2 lineto eoclip 2 2 scale 7 setwidth")
                how = desk.how
                self.assertIsNone(do_on(desk, "gsave"))
                self.assertEqual(desk.how, how)
                self.assertIsNone(do_on(desk, text))
                self.assertNotEqual(desk.how, how)
                self.assertIsNone(do_on(desk, "grestore"))
                self.assertEqual(desk.how, how)

    def test_the_last_one_kept_comes_back(self):
        desk = self.desk_behind("2 setink gsave 3 setink gsave 4 setink")
        for ink in (3, 2):
            self.assertIsNone(do_on(desk, "grestore"))
            self.assertEqual(desk.how["ink"], ink)
        for turn in range(2):
            self.assertIsNone(do_on(desk, "5 setink grestore"))
            self.assertEqual(desk.how["ink"], 5)

    def test_grestore_without_a_gsave(self):
        desk = Desk(8, 8)
        was = all_of(desk)
        self.assertIsNone(do_on(desk, "grestore"))
        self.assertEqual(all_of(desk), was)

    def test_pages_deeds_and_names_stay(self):
        desk = self.desk_behind("gsave /a 1 def erase showpage erase 5 grestore a")
        self.assertEqual((len(desk.shown), desk.inkings, stack_of(desk)), (1, (("erase",),), "5 1"))


class Bends(Drawing):
    def test_each(self):
        self.check_matrix("3 1:2 translate", nums(1, 0, 0, 1, 3, Fraction(1, 2)))
        self.check_matrix("3 -2 scale", nums(3, 0, 0, -2, 0, 0))
        for many in range(-5, 6):
            self.check_matrix(f"{many} rotate", quarter(many))
        self.check_matrix("[ 1 2 3 4 5 6 ] concat", nums(1, 2, 3, 4, 5, 6))

    def test_a_bend_comes_ahead_of_the_matrix_in_force(self):
        self.check_matrix("3 4 translate 2 5 scale", nums(2, 0, 0, 5, 3, 4))
        self.check_matrix("2 5 scale 3 4 translate", nums(2, 0, 0, 5, 6, 20))
        self.check("3 4 translate 2 5 scale 1 1 transform", "5 9")
        self.check("1 rotate 3 4 translate 0 0 transform", "-4 3")
        one, other, third = nums(1, 2, 3, 4, 5, 6), nums(2, 0, 0, 2, 1, 1), quarter(1)
        self.check_matrix("1 rotate [ 2 0 0 2 1 1 ] concat [ 1 2 3 4 5 6 ] concat", then(one, then(other, third)))

    def test_bends_that_can_not_be_undone(self):
        for ahead, name in (("0 1", "scale"), ("1 0", "scale"), ("0 0", "scale"), ("[ 1 2 2 4 0 0 ]", "concat"),
                            ("[ 0 0 0 0 1 1 ]", "concat"), (f"[ {MOST} {MOST} {MOST} {MOST} 0 0 ]", "concat"),
                            (f"0 {MOST}", "scale")):
            self.check_fault(ahead, name, "zero")
            self.check_fault("2 3 scale 1 1 moveto " + ahead, name, "zero")

    def test_wrong_numbers(self):
        self.check_fault("1:2", "rotate", "range")
        self.check_fault("-1.5", "rotate", "range")
        for ahead in ("[ ]", "[ 1 0 0 1 0 ]", "[ 1 0 0 1 0 0 0 ]", "5 array", "[ (a) ]"):
            self.check_fault(ahead, "concat", "range")
        for ahead in ("6 array", "[ 1 0 0 1 0 (a) ]", "[ 0 0 0 0 0 true ]", "[ /a 0 0 0 0 0 ]"):
            self.check_fault(ahead, "concat", "kind")

    def test_too_many_figures(self):
        self.check_fault(f"{MOST} 0 translate 1 0", "translate", "range")
        self.check_fault(f"{MOST} 1 scale 2 1", "scale", "range")
        self.check_fault(f"{MOST} 1 scale 2 1", "translate", "range")
        self.check_fault(f"{MOST} 1 scale [ 1 1 2 1 0 0 ]", "concat", "range")
        self.check_fault(f"{MOST} 1 scale 2 1", "transform", "range")
        self.check_fault(f"1:{MOST} 1 scale 2 1", "itransform", "range")
        self.check_fault(f"{MOST} 0 translate -2 1", "itransform", "range")
        self.check_fault(f"{MOST} 1 scale 0", "scale", "underflow")
        self.check_matrix(f"{MOST} {MOST} scale", (num(MOST), num(0), num(0), num(MOST), num(0), num(0)))

    def test_transform_and_itransform(self):
        chance = random.Random(13)
        self.check("1 2 transform", "1 2")
        self.check("1 2 itransform", "1 2")
        self.check("2 4 scale 1 1 translate 3 5 transform", "8 24")
        self.check("2 4 scale 1 1 translate 8 24 itransform", "3 5")
        for turn in range(100):
            matrix = nums(*[Fraction(chance.randrange(-6, 7), chance.choice((1, 2, 3))) for place in range(6)])
            if undone(matrix) is None:
                continue
            x, y = nums(chance.randrange(-9, 10), Fraction(chance.randrange(-9, 10), 4))
            to_x, to_y = point(matrix, x, y)
            row = " ".join(text_of(number) for number in matrix)
            self.check(f"[ {row} ] concat {text_of(x)} {text_of(y)} transform", f"{text_of(to_x)} {text_of(to_y)}")
            self.check(f"[ {row} ] concat {text_of(to_x)} {text_of(to_y)} itransform", f"{text_of(x)} {text_of(y)}")


class Paths(Drawing):
    def test_moveto(self):
        self.check_path("1 2 moveto", part((1, 2)))
        self.check_path("1 2 moveto 3 4 moveto", part((3, 4)))
        self.check_path("1 2 moveto 3 4 lineto 5 6 moveto", part((1, 2), (3, 4)), part((5, 6)))
        self.check_path("1 2 moveto 3 4 lineto 5 6 moveto 7 8 moveto", part((1, 2), (3, 4)), part((7, 8)))
        self.check_path("1 2 moveto closepath 3 4 moveto", part((1, 2), closed=True), part((3, 4)))
        self.check_path("1 2 moveto newpath")
        self.check_path("newpath")
        self.check_path("2 3 scale 1 1 translate 1 2 moveto", part((4, 9)))

    def test_lineto(self):
        self.check_path("0 0 moveto 4 0 lineto 4 4 lineto", part((0, 0), (4, 0), (4, 4)))
        self.check_path("0 0 moveto 0 0 lineto", part((0, 0), (0, 0)))
        self.check_path(
            "0 1 moveto 4 0 lineto closepath 2 2 lineto 3 3 lineto", part((0, 1), (4, 0), closed=True), part((0, 1), (2, 2), (3, 3)))
        self.check_path("5 6 moveto closepath 1 1 lineto", part((5, 6), closed=True), part((5, 6), (1, 1)))
        self.check_path("0 0 moveto 2 2 scale 1 1 lineto", part((0, 0), (2, 2)))

    def test_relative(self):
        self.check_path("1 2 moveto 3 4 rmoveto", part((4, 6)))
        self.check_path("1 2 moveto 3 4 rlineto 1 1 rlineto", part((1, 2), (4, 6), (5, 7)))
        self.check_path("1 2 moveto 3 4 rlineto 1 0 rmoveto 0 1 rlineto", part((1, 2), (4, 6)), part((5, 6), (5, 7)))
        self.check_path("7 9 translate 2 3 scale 0 0 moveto 1 1 rlineto", part((7, 9), (9, 12)))
        self.check_path("0 0 moveto 7 9 translate 1 rotate 1 0 rlineto", part((0, 0), (0, 1)))
        self.check_path("0 1 moveto 4 1 lineto closepath 1 1 rmoveto", part((0, 1), (4, 1), closed=True), part((1, 2)))
        self.check_path("0 1 moveto 4 1 lineto closepath 1 1 rlineto", part((0, 1), (4, 1), closed=True), part((0, 1), (1, 2)))
        self.check_path("0 1 moveto closepath 1 1 rmoveto", part((0, 1), closed=True), part((1, 2)))

    def test_curveto(self):
        start, one, other, end = (nums(x, y) for x, y in ((0, 0), (8, 0), (8, 8), (0, 8)))
        lines = tuple(eighths(start, one, other, end))
        self.check_path("0 0 moveto 8 0 8 8 0 8 curveto", ((start,) + lines, False))
        self.check_path("0 0 moveto 2 2 scale 4 0 4 4 0 4 curveto", ((start,) + lines, False))
        self.check_path("0 0 moveto closepath 8 0 8 8 0 8 curveto", ((start,), True), ((start,) + lines, False))
        self.check_path("3 3 moveto 0 0 lineto 8 0 8 8 0 8 curveto 1 1 lineto", ((nums(3, 3), start) + lines + (nums(1, 1),), False))

    def test_closepath(self):
        self.check_path("closepath")
        self.check_path("0 0 moveto closepath", part((0, 0), closed=True))
        self.check_path("0 0 moveto 1 0 lineto closepath closepath", part((0, 0), (1, 0), closed=True))
        self.check_path("0 0 moveto 1 0 lineto 5 5 moveto closepath", part((0, 0), (1, 0)), part((5, 5), closed=True))

    def test_rect(self):
        self.check_path("1 2 3 4 rect", part((1, 2), (4, 2), (4, 6), (1, 6), closed=True))
        self.check_path("9 9 moveto 1 2 3 4 rect", box(1, 2, 4, 6))
        self.check_path("9 9 moveto 8 8 lineto 1 2 3 4 rect", part((9, 9), (8, 8)), box(1, 2, 4, 6))
        self.check_path("9 9 moveto closepath 1 2 3 4 rect", part((9, 9), closed=True), box(1, 2, 4, 6))
        self.check_path("1 1 1 1 rect 1 2 3 4 rect", box(1, 1, 2, 2), box(1, 2, 4, 6))
        self.check_path("1 rotate 1 2 3 4 rect", part((-2, 1), (-2, 4), (-6, 4), (-6, 1), closed=True))
        self.check_path("1 2 -3 0 rect", part((1, 2), (-2, 2), (-2, 2), (1, 2), closed=True))
        self.check("1 2 3 4 rect currentpoint", "1 2")

    def test_currentpoint(self):
        self.check("1 2 moveto currentpoint", "1 2")
        self.check("1 2 moveto 5 6 lineto currentpoint", "5 6")
        self.check("1 2 moveto 5 6 lineto closepath currentpoint", "1 2")
        self.check("2 4 scale 1 1 translate 3 5 moveto currentpoint", "3 5")
        self.check("3 5 moveto 2 4 scale 1 1 translate currentpoint", "1:2 1:4")

    def test_pathbox(self):
        self.check("1 2 moveto pathbox", "1 2 1 2")
        self.check("1 2 moveto -5 6 lineto 3 -4 lineto 1:2 9 moveto pathbox", "-5 -4 3 9")
        self.check("2 2 scale 1 2 moveto pathbox", "2 4 2 4")
        text = "0 0 moveto 8 0 8 8 0 8 curveto"
        told = box_of(self.desk_behind(text).how["path"])
        self.check(text + " pathbox", " ".join(text_of(number) for number in told))

    def test_without_a_path(self):
        for ahead, name in (("1 2", "lineto"), ("1 2", "rmoveto"), ("1 2", "rlineto"), ("1 2 3 4 5 6", "curveto"), ("", "currentpoint"),
                            ("", "pathbox"), ("1 2 moveto newpath 1 2", "lineto"), ("0 0 2 2 rect fill", "currentpoint"),
                            (f"{MOST} 1 scale 2 2", "lineto"), (f"{MOST} 1 scale 2 2", "rlineto")):
            self.check_fault(ahead, name, "point")

    def test_too_many_figures(self):
        large = f"{MOST} 1 scale 0 0 moveto "
        for ahead, name in (("2 1", "moveto"), ("2 1", "lineto"), ("2 1", "rmoveto"), ("2 1", "rlineto"), ("1 1 1 1 2 1", "curveto"),
                            ("2 1 1 1 1 1", "curveto"), ("1 1 2 1 1 1", "curveto"), ("1 1 1 1", "rect"), ("2 1 -1 1", "rect")):
            self.check_fault(large + ahead, name, "range")
        self.check_fault(f"{MOST} 1 1 1", "rect", "range")
        self.check_fault(f"1 {MOST} 1 1", "rect", "range")
        self.check_fault(f"{MOST} 0 moveto 1 0", "rmoveto", "range")
        self.check_fault(f"0 {MOST} moveto 0 1", "rlineto", "range")
        self.check_fault(f"0 1:{MOST} moveto 0 0 0 0 0 0", "curveto", "range")
        self.check_fault(f"2 0 moveto 1:{MOST} 1 scale", "currentpoint", "range")


class Inks(Drawing):
    def test_setink(self):
        for ink in range(16):
            self.check_deeds(f"{ink} setink 0 0 2 2 rect fill", ("fill", (box(0, 0, 2, 2),), "whole", ink, ()))
        for ahead in ("16", "-1", "1:2", str(MOST)):
            self.check_fault(ahead, "setink", "range")

    def test_setwidth(self):
        self.check_deeds("0 0 2 2 rect stroke", ("stroke", (box(0, 0, 2, 2),), (1, 1), 1, ()))
        for text, width in (("0", 0), ("3:4", Fraction(3, 4)), ("5", 5), (str(MOST), MOST)):
            self.check_deeds(f"{text} setwidth 0 0 2 2 rect stroke", ("stroke", (box(0, 0, 2, 2),), num(width), 1, ()))
        self.check_deeds("9 9 scale 3 setwidth 0 0 moveto stroke", ("stroke", (part((0, 0)),), (3, 1), 1, ()))
        for ahead in ("-1", "-1:1000"):
            self.check_fault(ahead, "setwidth", "range")

    def test_fill_eofill_stroke(self):
        path = (box(0, 0, 2, 2), part((5, 5), (6, 6)))
        draw = "0 0 2 2 rect 5 5 moveto 6 6 lineto "
        for name, kind, how in (("fill", "fill", "whole"), ("eofill", "fill", "odd"), ("stroke", "stroke", (1, 1))):
            desk = self.check_deeds(draw + name, (kind, path, how, 1, ()))
            self.assertEqual(desk.how["path"], ())
            self.check_deeds(name)
            self.check_deeds(f"{draw}{name} {name}", (kind, path, how, 1, ()))
            self.check_deeds(f"3 3 moveto {name}", (kind, (part((3, 3)),), how, 1, ()))

    def test_the_path_is_as_it_was_drawn(self):
        self.check_deeds("0 0 moveto 2 2 scale 1 1 lineto fill", ("fill", (part((0, 0), (2, 2)),), "whole", 1, ()))

    def test_clips(self):
        one, other = (box(0, 0, 4, 4),), (box(0, 0, 4, 4), box(1, 1, 2, 2))
        self.check_deeds(
            "0 0 4 4 rect clip 1 1 1 1 rect eoclip 2 setink fill", ("fill", other, "whole", 2, ((one, "whole"), (other, "odd"))))
        self.check_deeds("0 0 4 4 rect eoclip stroke", ("stroke", one, (1, 1), 1, ((one, "odd"),)))
        self.check_deeds("0 0 4 4 rect clip clip initclip fill", ("fill", one, "whole", 1, ()))
        self.check_deeds("0 0 4 4 rect clip erase newpath", ("erase",))
        self.check_path("0 0 4 4 rect clip", *one)
        self.check_deeds("gsave 0 0 4 4 rect clip grestore 0 0 4 4 rect fill", ("fill", one, "whole", 1, ()))

    def test_a_clip_without_a_path(self):
        desk = self.check_deeds("clip 0 0 4 4 rect fill", ("fill", (box(0, 0, 4, 4),), "whole", 1, (((), "whole"),)))
        self.assertEqual(painted(list(desk.inkings), 4, 4), ((0,) * 4,) * 4)

    def test_erase(self):
        self.check_deeds("erase erase", ("erase",), ("erase",))

    def test_showpage(self):
        desk = self.desk_behind("2 setink 1 1 3 2 rect fill 5 5 moveto showpage")
        deed = ("fill", (box(1, 1, 4, 3),), "whole", 2, ())
        self.assertEqual(desk.shown, (painted([deed], 8, 8),))
        self.assertEqual((desk.inkings, desk.how["ink"], desk.how["path"]), ((), 2, (part((5, 5)),)))
        self.assertIsNone(do_on(desk, "showpage 0 0 1 1 rect fill showpage showpage"))
        self.assertEqual([sum(map(sum, page)) for page in desk.shown], [12, 0, 2, 0])


class Letters(Drawing):
    def test_letters_draw_where_the_path_is(self):
        self.check_deeds(
            LETTERS + "5 6 moveto (aa) show", ("fill", (box(5, 6, 6, 7),), "whole", 1, ()), ("fill", (box(7, 6, 8, 7),), "whole", 1, ()))
        self.check_deeds(LETTERS + "2 3 scale 5 6 moveto (a) show", ("fill", (box(10, 18, 12, 21),), "whole", 1, ()))
        self.check_deeds(
            LETTERS + "9 9 translate 1 rotate 1 0 moveto (aa) show",
            ("fill", (part((9, 10), (9, 11), (8, 11), (8, 10), closed=True),), "whole", 1, ()),
            ("fill", (part((9, 12), (9, 13), (8, 13), (8, 12), closed=True),), "whole", 1, ()))

    def test_the_path_goes_on_by_the_widths(self):
        self.check_path(LETTERS + "5 6 moveto (aba) show", part((Fraction(19, 2), 6)))
        self.check_path(LETTERS + "5 6 moveto () show", part((5, 6)))
        self.check_path(LETTERS + "5 6 moveto 7 7 lineto (ab) show", part((5, 6), (7, 7)), part((Fraction(19, 2), 7)))
        self.check_path(LETTERS + "5 6 3 3 rect (a) show", box(5, 6, 8, 9), part((7, 6)))
        self.check_path(LETTERS + "5 6 moveto 2 3 scale (a) show", part((9, 6)))
        self.check_path(LETTERS + "5 6 moveto 2 3 scale 1 rotate 1 1 translate (a) show", part((5, 12)))

    def test_a_letter_begins_without_a_path(self):
        setup = "/l dict def l /a [ 1 { { currentpoint } stopped clear 2 3 moveto 4 4 lineto stroke } ] put l setfont "
        self.check_deeds(setup + "1 1 moveto 0 0 lineto (a) show", ("stroke", (part((2, 3), (4, 4)),), (1, 1), 1, ()))

    def test_how_is_drawn_is_as_ahead_of_the_letter(self):
        for proc in ("7 setink", "gsave", "gsave 4 setink gsave", "grestore", "2 2 scale", "5 setwidth", "clip", "initclip", "dict setfont",
                     "newpath 1 1 moveto", "save pop", "/s load restore", "0 0 moveto (b) show"):
            with self.subTest(proc=proc):
                desk = self.desk_behind(LETTERS + f"l /c [ 0 {{ {proc} }} ] put")
                self.assertIsNone(do_on(desk, "6 setink gsave 0 0 2 2 rect clip 3 setwidth 1 2 moveto /s save def"))
                how, kept = desk.how, desk.kept
                self.assertIsNone(do_on(desk, "(cc) show" if "/s" not in proc else "(c) show"))
                self.assertEqual((desk.how, desk.kept), (how, kept))

    def test_a_width_of_0_and_one_below_0(self):
        self.check_path("/l dict def l /a [ -3 { } ] put l /b [ 0 { } ] put l setfont 1 1 moveto (abab) show", part((-5, 1)))

    def test_what_letters_do_to_operands_stays(self):
        self.check("/l dict def l /a [ 1 { 1 add } ] put l setfont 0 0 moveto 5 (aaa) show", "8")

    def test_letters_are_looked_up_one_behind_the_other(self):
        setup = "/l dict def l /a [ 1 { l /b [ 5 { } ] put } ] put l setfont 0 0 moveto "
        self.check(setup + "(ab) show currentpoint", "6 0")
        self.check(setup + "l /b [ 1 { } ] put (ab) stringwidth", "2")
        self.check("/l dict def /a [ 1 { a 0 9 put } ] def l /a a put l setfont 0 0 moveto (a) show currentpoint (a) stringwidth", "1 0 9")
        self.check("/l dict def l setfont 0 0 moveto l /a [ 1 { dict setfont } ] put (aa) show currentpoint", "2 0")

    def test_letters_within_letters(self):
        self.check_deeds(
            LETTERS + "l /w [ 9 { 1 1 moveto (aa) show } ] put 10 10 moveto (w) show",
            ("fill", (box(11, 11, 12, 12),), "whole", 1, ()), ("fill", (box(13, 11, 14, 12),), "whole", 1, ()))
        self.check(LETTERS + "l /w [ 9 { 1 1 moveto (aa) show } ] put 10 10 moveto (w) show currentpoint", "19 10")

    def test_without_a_path(self):
        for text in ("(a)", "()", "(Z)"):
            self.check_fault(LETTERS + text, "show", "point")
            self.check_fault(text, "show", "point")

    def test_faults_at_a_sign(self):
        bad = LETTERS + "".join(
            f"l /{name} {thing} put " for name, thing in (
                ("c", "5"), ("d", "[ 1 ]"), ("e", "[ 1 { } 2 ]"), ("f", "[ (a) { } ]"), ("g", "[ 1 2 ]"), ("h", "[ { } 1 ]"), ("i", "[ ]"),
                ("j", "dict"), ("k", "{ }"), ("m", "null"), ("n", "2 array")))
        for signs, kind in [(" ", "undefined"), ("A", "undefined"), ("1", "undefined"), ("z", "undefined"), ("#", "undefined")] + [
                (sign, "kind") for sign in "cdefghijkmn"]:
            with self.subTest(signs=signs):
                desk = self.desk_behind(bad + "7 1 2 moveto 8")
                self.assertEqual(do_on(desk, f"({signs}a) show"), (kind, "show"))
                self.assertEqual((stack_of(desk), desk.how["path"], desk.inkings), ("7 8", (part((1, 2)),), ()))
                self.assertEqual(do_on(desk, f"(aa{signs}a) show"), (kind, "show"))
                self.assertEqual((stack_of(desk), desk.how["path"], len(desk.inkings)), ("7 8", (part((5, 2)),), 2))
                self.assertIsNone(do_on(desk, f"{{ (a{signs}a) show }} stopped"))
                self.assertEqual((stack_of(desk), desk.how["path"], len(desk.inkings)), ("7 8 true", (part((7, 2)),), 3))
                self.check_fault(bad + f"(a{signs}a)", "stringwidth", kind)

    def test_without_letters(self):
        self.check_ends("1 0 0 moveto (a) show", ("undefined", "show"), "1")
        self.check_ends("1 0 0 moveto () show 2", None, "1 2")
        self.check_fault("(a)", "stringwidth", "undefined")
        self.check("() stringwidth", "0")

    def test_a_width_with_too_many_figures(self):
        desk = self.desk_behind(f"/l dict def l /a [ {MOST} {{ 5 setink }} ] put l setfont 0 0 moveto")
        self.assertIsNone(do_on(desk, "{ (a) show } stopped"))
        how, kept = desk.how, desk.kept
        self.assertEqual((stack_of(desk), how["path"]), ("false", (part((MOST, 0)),)))
        self.assertIsNone(do_on(desk, "{ (aa) show } stopped"))
        self.assertEqual((stack_of(desk), desk.how, desk.kept), ("false true", how, kept))
        self.assertEqual(do_on(desk, "(a) show"), ("range", "show"))
        self.check_fault(f"/l dict def l /a [ {MOST} {{ }} ] put l setfont (aa)", "stringwidth", "range")

    def test_a_letter_that_is_over_before_its_time(self):
        setup = "/l dict def l /a [ 1 { 5 setink gsave 3 3 moveto 4 4 translate %s } ] put l setfont 2 setink gsave 1 1 moveto "
        for proc, text, outcome, stack in (
            ("stop", "(aa) show", ("stop", "stop"), ""), ("1 0 div", "(aa) show", ("zero", "div"), "1 0"),
            ("nothing", "(aa) show", ("undefined", "nothing"), ""), ("stop", "{ (aa) show } stopped", None, "true"),
            ("exit", "{ (aa) show 7 } loop 8", None, "8"), ("exit", "(aa) show", ("exit", "exit"), ""),
            ("{ } loop", "(aa) show", ("limit", ""), ""), ("{ exit } loop (b) show", "(aa) show", ("undefined", "show"), ""),
            ("{ (a) show } loop", "(aa) show", ("limit", ""), None), ("(aa) stop", "2 { (aa) show } repeat", ("stop", "stop"), "(aa)"),
        ):
            with self.subTest(proc=proc, text=text):
                desk = self.desk_behind(setup % proc)
                how, kept = desk.how, desk.kept
                self.assertEqual(do_on(desk, text), outcome)
                self.assertEqual((desk.how, desk.kept, desk.frames), (how, kept, []))
                if stack is not None:
                    self.assertEqual(stack_of(desk), stack)

    def test_each_letter_is_a_step(self):
        for text, steps in (("() show", 2), ("(b) show", 2 + 5 + 1), ("(bb) show", 2 + 12), ("(a) stringwidth", 2), ("(az) show", 2 + 7 + 1)):
            with self.subTest(text=text):
                for given in (steps, steps - 1):
                    desk = self.desk_behind(LETTERS + "0 0 moveto")
                    outcome = do_on(desk, text, given)
                    self.assertEqual(outcome == ("limit", ""), given < steps)

    def test_stringwidth(self):
        self.check(LETTERS + "(aba) stringwidth", "9:2")
        self.check(LETTERS + "9 9 scale (b) stringwidth", "1:2")
        self.check(LETTERS + "() stringwidth", "0")
        self.check(f"/l dict def l /a [ {MOST} {{ }} ] put l /b [ {-MOST} {{ }} ] put l setfont (aab) stringwidth", str(MOST))
        desk = self.desk_behind(LETTERS + "1 1 moveto")
        was = all_of(desk)
        self.assertIsNone(do_on(desk, "(aab) stringwidth pop"))
        self.assertEqual(all_of(desk), was)

    def test_setfont(self):
        self.check(LETTERS + "dict dup /a [ 7 { } ] put setfont (aa) stringwidth", "14")
        self.check(LETTERS + "gsave dict setfont grestore (a) stringwidth", "2")
        for kind, text in OF_KIND.items():
            if kind != "dict":
                self.check_fault(text, "setfont", "kind")


class Shown(Drawing):
    def test_a_page_is_that_of_its_deeds(self):
        chance = random.Random(15)
        names = ("fill", "eofill", "stroke", "clip newpath", "eoclip newpath", "initclip", "erase", "gsave", "grestore", "1 rotate", "2 1 translate")
        for turn in range(40):
            words = []
            for deed in range(12):
                sides = " ".join(str(chance.randrange(-2, 8)) for side in range(4))
                words.append(f"{chance.randrange(16)} setink {sides} rect " + chance.choice(names))
            desk = self.desk_behind(" ".join(words))
            deeds = list(desk.inkings)
            self.assertTrue(all(is_deed(deed) for deed in deeds))
            self.assertIsNone(do_on(desk, "showpage"))
            self.assertEqual(desk.shown, (painted(deeds, 8, 8),))


if __name__ == "__main__":
    unittest.main()
