"""Exact numbers: tuples (top, below) of whole numbers in lowest terms."""

from pageloom.errors import NoNumber

MOST_FIGURES = 40
TOO_GREAT = 10 ** 40


def is_whole(thing):
    """Whether a thing is a whole number; truths are none, though Python counts them as ints."""
    return isinstance(thing, int) and not isinstance(thing, bool)


def is_within(thing, least, most):
    """Whether any thing is a whole number from least to most."""
    return is_whole(thing) and least <= thing <= most


def common_part(one, other):
    """The greatest whole number that divides both, neither of them below 0."""
    while other != 0:
        one, other = other, one % other
    return one


def is_short(top, below):
    """Whether both have few enough figures; below is above 0."""
    return abs(top) < TOO_GREAT and below < TOO_GREAT


def is_number(thing):
    """Whether any thing is a number."""
    if not isinstance(thing, tuple) or len(thing) != 2:
        return False
    top, below = thing
    if not is_whole(top) or not is_whole(below):
        return False
    return below > 0 and is_short(top, below) and common_part(abs(top), below) == 1


def lowest(top, below):
    """The number of two whole ones, below not 0; None where it would have too many figures."""
    if below < 0:
        top, below = -top, -below
    shared = common_part(abs(top), below)
    top, below = top // shared, below // shared
    return (top, below) if is_short(top, below) else None


def number(top, below=1):
    """The number of two whole ones, below not 0."""
    if not is_whole(top) or not is_whole(below) or below == 0:
        raise NoNumber("a number is made of two whole numbers, the one below not 0")
    made = lowest(top, below)
    if made is None:
        raise NoNumber("the number would have too many figures")
    return made


def need_number(thing):
    """Refuses any thing that is no number."""
    if not is_number(thing):
        raise NoNumber("this is no number")


def text_of(thing):
    """The text of a number."""
    need_number(thing)
    top, below = thing
    return str(top) if below == 1 else f"{top}:{below}"


def are_figures(word):
    """Whether a word is of figures alone, at least one and not too many."""
    # Python's isdigit takes figures of other scripts, too; these are none here.
    return word.isascii() and word.isdigit() and len(word) <= MOST_FIGURES


def read_terms(word):
    """Top and below of a word without a sign, not in lowest terms; None of a word that is no number."""
    if are_figures(word):
        return int(word), 1
    first, colon, second = word.partition(":")
    if are_figures(first) and are_figures(second):
        return int(first), int(second)
    first, point, second = word.partition(".")
    if are_figures(first) and are_figures(second):
        return int(first + second), int("1" + "0" * len(second))
    return None


def read_number(word):
    """The number that a text tells; None of all other texts."""
    terms = read_terms(word.removeprefix("-"))
    if terms is None:
        return None
    top, below = terms
    if below == 0:
        return None
    return lowest(-top if word.startswith("-") else top, below)


# The sums tell None where one of their numbers is None, so that a number that
# had too many figures on the way is still told at the end of a longer sum.


def plus(one, other):
    """The sum of two numbers; None where it would have too many figures."""
    if one is None or other is None:
        return None
    return lowest(one[0] * other[1] + other[0] * one[1], one[1] * other[1])


def minus(one, other):
    """What one number is more than another; None where it would have too many figures."""
    if other is None:
        return None
    return plus(one, (-other[0], other[1]))


def times(one, other):
    """The product of two numbers; None where it would have too many figures."""
    if one is None or other is None:
        return None
    return lowest(one[0] * other[0], one[1] * other[1])


def over(one, other):
    """The quotient of two numbers, the other one not 0; None where it would have too many figures."""
    if one is None or other is None:
        return None
    return lowest(one[0] * other[1], one[1] * other[0])


def is_less(one, other):
    """Whether one number is less than another."""
    return one[0] * other[1] < other[0] * one[1]


def in_units(terms):
    """Terms (top, below) as whole numbers of a unit that suits them all, in a list, and how many units come to 1."""
    unit = 1
    for top, below in terms:
        unit = unit * below // common_part(unit, below)
    return [top * (unit // below) for top, below in terms], unit
