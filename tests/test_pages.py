"""Point 7.1, and what 0.3 says of it."""

import copy
import inspect
import random
import unittest

from pageloom import pages
from pageloom.errors import NoPage, NoText
from pageloom.pages import beside, inked, is_page, page_text, read_page, stacked
from samples import ODD_THINGS

SMALL = ((0, 1, 15), (10, 9, 0))
NO_PAGES = ODD_THINGS + (
    (), ((),), ((), ()), ((0,), ()), ((), (0,)), [[0]], [(0,)], ([0],), ((0,), [0]), (0,), (0, 1), (("0",),), ((None,),),
    ((True,),), ((False,),), ((0, True),), ((1, False),), ((-1,),), ((16,),), ((0, 1), (0,)), ((0,), (0, 1)), ((0, 1), (0, 1, 2)),
    (((0, 1),),), (((0,),),), ((0, None),), SMALL + ((0, 1),), SMALL + ((0, 1, 16),), SMALL + ((0, True, 1),), SMALL + (None,),
    SMALL + ([0, 1, 2],), ((0,) * 65,), ((0,),) * 65, ((0,) * 65,) * 65, ("000",), "000\n", ((0, "1"),),
)
NO_TEXTS = (
    "", "\n", "\n\n", "0", "01", "0\n1", "00\n0", "0\n\n", "\n0\n", "0\n\n0\n", "00\n0\n", "0\n00\n", "0\n00", "A\n", "F\n", "g\n",
    "-\n", "-1\n", " \n", "0 \n", " 0\n", "0\n \n", "0\r\n", "0\r", "0\t\n", "0\x0b", "0\u2028", "0\x0b0\n", "\u0661\n", "\uff11\n",
    "\u00b2\n", "0x1\n", "0" * 65 + "\n", "0\n" * 65, "0" * 64, "0\n0", "None", "+\n", "_\n", "0_\n", "0\x00\n", "#\n",
)


def random_page(chance, wide, high):
    return tuple(tuple(chance.randrange(16) for cell in range(wide)) for row in range(high))


class IsPage(unittest.TestCase):
    def test_pages(self):
        for thing in (SMALL, ((0,),), ((15,),), ((0,) * 64,), ((15,),) * 64, ((7,) * 64,) * 64, (tuple(range(16)),)):
            self.assertIs(is_page(thing), True)

    def test_all_else(self):
        for at, thing in enumerate(NO_PAGES):
            with self.subTest(at=at):
                self.assertIs(is_page(thing), False)


class PageText(unittest.TestCase):
    def test_texts(self):
        self.assertEqual(page_text(SMALL), "01f\na90\n")
        self.assertEqual(page_text(((0,),)), "0\n")
        self.assertEqual(page_text((tuple(range(16)),)), "0123456789abcdef\n")
        self.assertEqual(page_text(((3,) * 64,) * 64), ("3" * 64 + "\n") * 64)

    def test_refusals(self):
        for thing in NO_PAGES:
            self.assertRaises(NoPage, page_text, thing)


class ReadPage(unittest.TestCase):
    def test_texts(self):
        self.assertEqual(read_page("01f\na90\n"), SMALL)
        self.assertEqual(read_page("0\n"), ((0,),))
        self.assertEqual(read_page("0123456789abcdef\n"), (tuple(range(16)),))
        self.assertEqual(read_page("c" * 64 + "\n"), ((12,) * 64,))
        self.assertEqual(read_page("d\n" * 64), ((13,),) * 64)

    def test_back_and_forth(self):
        chance = random.Random(71)
        for times in range(60):
            page = random_page(chance, chance.randrange(1, 65), chance.randrange(1, 65))
            self.assertEqual(read_page(page_text(page)), page)

    def test_each_sign(self):
        for sign in map(chr, range(400)):
            if sign in "0123456789abcdef":
                self.assertEqual(read_page(sign + "\n"), ((int(sign, 16),),))
            else:
                self.assertRaises(NoText, read_page, sign + "\n")
                self.assertRaises(NoText, read_page, "0" + sign + "\n00\n")
                self.assertRaises(NoText, read_page, "0\n" + sign)

    def test_all_others(self):
        for text in NO_TEXTS:
            with self.subTest(text[:20]):
                self.assertRaises(NoText, read_page, text)
        for thing in NO_PAGES + (SMALL, ["0\n"], ("0\n",), b"0\n"):
            if not isinstance(thing, str) or thing not in ("0\n", "000\n"):
                self.assertRaises(NoText, read_page, thing)


class Together(unittest.TestCase):
    def test_by_hand(self):
        self.assertEqual(stacked(((1, 2),), ((3, 4), (5, 6))), ((1, 2), (3, 4), (5, 6)))
        self.assertEqual(beside(((1,), (2,)), ((3, 4), (5, 6))), ((1, 3, 4), (2, 5, 6)))

    def test_texts_of_both(self):
        chance = random.Random(72)
        for times in range(40):
            side, one, other = chance.randrange(1, 65), chance.randrange(1, 32), chance.randrange(1, 32)
            first, second = random_page(chance, side, one), random_page(chance, side, other)
            self.assertEqual(page_text(stacked(first, second)), page_text(first) + page_text(second))
            first, second = random_page(chance, one, side), random_page(chance, other, side)
            lines = zip(page_text(first).split(), page_text(second).split())
            self.assertEqual(page_text(beside(first, second)).split(), [line + more for line, more in lines])

    def test_sixty_four_and_one_more(self):
        for one in (1, 31, 32, 63):
            high, wide = ((1,),) * one, ((1,) * one,)
            self.assertEqual(stacked(high, ((2,),) * (64 - one)), ((1,),) * one + ((2,),) * (64 - one))
            self.assertEqual(beside(wide, ((2,) * (64 - one),)), ((1,) * one + (2,) * (64 - one),))
            self.assertRaises(NoPage, stacked, high, ((2,),) * (65 - one))
            self.assertRaises(NoPage, beside, wide, ((2,) * (65 - one),))

    def test_unlike_ones(self):
        for one, other in ((1, 2), (2, 1), (63, 64), (1, 64)):
            self.assertRaises(NoPage, stacked, ((0,) * one,), ((0,) * other,))
            self.assertRaises(NoPage, beside, ((0,),) * one, ((0,),) * other)

    def test_refusals(self):
        for thing in NO_PAGES:
            for joined in (stacked, beside):
                self.assertRaises(NoPage, joined, thing, SMALL)
                self.assertRaises(NoPage, joined, SMALL, thing)
                self.assertRaises(NoPage, joined, thing, thing)


class Inked(unittest.TestCase):
    def test_counts(self):
        self.assertEqual(inked(SMALL), [2, 1, 0, 0, 0, 0, 0, 0, 0, 1, 1, 0, 0, 0, 0, 1])
        self.assertEqual(inked(((0,),)), [1] + [0] * 15)
        self.assertEqual(inked(((15,) * 64,) * 64), [0] * 15 + [4096])
        self.assertEqual(inked((tuple(range(16)),)), [1] * 16)

    def test_a_new_list_each_time(self):
        self.assertIs(type(inked(SMALL)), list)
        inked(SMALL).clear()
        self.assertEqual(sum(inked(SMALL)), 6)

    def test_refusals(self):
        for thing in NO_PAGES:
            self.assertRaises(NoPage, inked, thing)


class AsPromised(unittest.TestCase):
    def test_arguments(self):
        for name, many in (("is_page", 1), ("page_text", 1), ("read_page", 1), ("stacked", 2), ("beside", 2), ("inked", 1)):
            told = inspect.signature(getattr(pages, name)).parameters.values()
            self.assertEqual([kept.default for kept in told], [inspect.Parameter.empty] * many)

    def test_kinds(self):
        for made in (read_page("0\n"), stacked(SMALL, SMALL), beside(SMALL, SMALL)):
            self.assertIs(is_page(made), True)

    def test_what_is_handed_in_stays(self):
        things = [[[0], [1]], ([0], [1]), [(0,)]]
        kept = copy.deepcopy(things)
        for thing in things:
            self.assertFalse(is_page(thing))
            self.assertRaises(NoText, read_page, thing)
            for asked in (page_text, inked):
                self.assertRaises(NoPage, asked, thing)
            for joined in (stacked, beside):
                self.assertRaises(NoPage, joined, thing, thing)
        self.assertEqual(things, kept)


if __name__ == "__main__":
    unittest.main()
