"""Pages: tuples of rows of inks, and their writing."""

from pageloom.errors import NoPage, NoText
from pageloom.exact import is_within

MOST_CELLS = 64
MOST_INK = 15
SIGNS = "0123456789abcdef"


def is_side(thing):
    """Whether any thing is how many cells a page can have along a side."""
    return is_within(thing, 1, MOST_CELLS)


def is_ink(thing):
    """Whether any thing is an ink."""
    return is_within(thing, 0, MOST_INK)


def is_row(thing):
    """Whether any thing is a row of a page."""
    if not isinstance(thing, tuple) or not is_side(len(thing)):
        return False
    return all([is_ink(cell) for cell in thing])


def is_page(thing):
    """Whether any thing is a page."""
    if not isinstance(thing, tuple) or not is_side(len(thing)):
        return False
    if not all([is_row(row) for row in thing]):
        return False
    return all([len(row) == len(thing[0]) for row in thing])


def need_page(thing):
    """Refuses any thing that is no page."""
    if not is_page(thing):
        raise NoPage("this is no page")


def page_text(page):
    """The writing of a page: a line for each row, a sign for each cell."""
    need_page(page)
    return "".join(["".join([SIGNS[ink] for ink in row]) + "\n" for row in page])


def read_page(text):
    """The page of which a text is the writing."""
    if not isinstance(text, str):
        raise NoText("this is no text")
    *lines, rest = text.split("\n")
    # A sign that stands for no ink is found at -1, which is none, either.
    page = tuple([tuple([SIGNS.find(sign) for sign in line]) for line in lines])
    if rest != "" or not is_page(page):
        raise NoText("this is not the writing of a page")
    return page


def stacked(one, other):
    """The page of two pages, the other one below."""
    need_page(one)
    need_page(other)
    page = one + other
    if not is_page(page):
        raise NoPage("these pages can not stand below one another")
    return page


def beside(one, other):
    """The page of two pages, the other one to the right."""
    need_page(one)
    need_page(other)
    page = tuple([row + further for row, further in zip(one, other)])
    if len(one) != len(other) or not is_page(page):
        raise NoPage("these pages can not stand beside one another")
    return page


def inked(page):
    """A list of how many cells of a page have ink 0, 1, and so on."""
    need_page(page)
    cells = [ink for row in page for ink in row]
    return [cells.count(ink) for ink in range(MOST_INK + 1)]
