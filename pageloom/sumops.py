"""What the operators of the stack, of comparison and of sums do.

Each deed is handed the desk and what the operator takes, as pageloom.kinds tells it: an
operand of any kind as it is, one of a told kind by what it is. It tells a list of the operands
that are put in their place. Until then they stand on the desk; a Fault comes ahead of any change.
"""

from pageloom.desks import Fault, told
from pageloom.exact import is_less, minus, over, plus, times

MOST_OPERANDS = 1000
ZERO = (0, 1)
MARK = ("mark", None)
NULL = ("null", None)


def is_whole_number(number):
    """Whether a number is a whole one."""
    return number[1] == 1


def as_many(number):
    """The whole number that tells how many; a fault of all others."""
    if not is_whole_number(number) or number[0] < 0:
        raise Fault("range")
    return number[0]


def need_below(desk, taken, many):
    """A fault, where fewer operands than these stand below those taken."""
    if len(desk.operands) - len(taken) < many:
        raise Fault("underflow")


def need_room(many):
    """A fault, where so many operands are too many."""
    if many > MOST_OPERANDS:
        raise Fault("range")


def do_pop(desk, taken):
    return []


def do_dup(desk, taken):
    return taken + taken


def do_exch(desk, taken):
    return taken[::-1]


def do_copy(desk, taken):
    many = as_many(taken[0])
    need_below(desk, taken, many)
    last = len(desk.operands) - 1
    need_room(last + many)
    return desk.operands[last - many:last]


def do_index(desk, taken):
    many = as_many(taken[0])
    need_below(desk, taken, many + 1)
    return [desk.operands[-2 - many]]


def do_roll(desk, taken):
    many = as_many(taken[0])
    if not is_whole_number(taken[1]):
        raise Fault("range")
    need_below(desk, taken, many)
    if many > 0:
        end = len(desk.operands) - 2
        row = desk.operands[end - many:end]
        cut = many - taken[1][0] % many
        desk.operands[end - many:end] = row[cut:] + row[:cut]
    return []


def do_clear(desk, taken):
    desk.operands.clear()
    return []


def do_count(desk, taken):
    return [("number", (len(desk.operands), 1))]


def do_mark(desk, taken):
    return [MARK]


def last_mark(desk):
    """The place of the last mark among the operands; a fault without one."""
    at = len(desk.operands) - 1
    while at >= 0 and desk.operands[at] != MARK:
        at -= 1
    if at < 0:
        raise Fault("mark")
    return at


def do_counttomark(desk, taken):
    return [("number", (len(desk.operands) - 1 - last_mark(desk), 1))]


def do_cleartomark(desk, taken):
    del desk.operands[last_mark(desk):]
    return []


def truth(holds):
    """The list of the one operand that is this truth."""
    return [("truth", holds)]


def are_equal(one, other):
    """Whether two operands are equal; a fault of procs."""
    if one[0] == "proc" or other[0] == "proc":
        raise Fault("kind")
    return one == other


def is_ahead(one, other):
    """Whether one operand is less than another; a fault unless both are numbers, or both texts."""
    if one[0] != other[0]:
        raise Fault("kind")
    if one[0] == "number":
        return is_less(one[1], other[1])
    if one[0] == "text":
        return one[1] < other[1]
    raise Fault("kind")


def do_eq(desk, taken):
    return truth(are_equal(taken[0], taken[1]))


def do_ne(desk, taken):
    return truth(not are_equal(taken[0], taken[1]))


def do_lt(desk, taken):
    return truth(is_ahead(taken[0], taken[1]))


def do_le(desk, taken):
    return truth(not is_ahead(taken[1], taken[0]))


def do_gt(desk, taken):
    return truth(is_ahead(taken[1], taken[0]))


def do_ge(desk, taken):
    return truth(not is_ahead(taken[0], taken[1]))


def do_and(desk, taken):
    return truth(taken[0] and taken[1])


def do_or(desk, taken):
    return truth(taken[0] or taken[1])


def do_not(desk, taken):
    return truth(not taken[0])


def do_true(desk, taken):
    return truth(True)


def do_false(desk, taken):
    return truth(False)


def do_null(desk, taken):
    return [NULL]


def come_to(found):
    """The list of the one operand that a sum comes to; a fault, where it would have too many figures."""
    return [("number", told(found))]


def do_add(desk, taken):
    return come_to(plus(taken[0], taken[1]))


def do_sub(desk, taken):
    return come_to(minus(taken[0], taken[1]))


def do_mul(desk, taken):
    return come_to(times(taken[0], taken[1]))


def do_div(desk, taken):
    if taken[1] == ZERO:
        raise Fault("zero")
    return come_to(over(taken[0], taken[1]))


def need_wholes(taken):
    """A fault, where two numbers are no whole ones, or the second one is 0."""
    if not is_whole_number(taken[0]) or not is_whole_number(taken[1]):
        raise Fault("range")
    if taken[1] == ZERO:
        raise Fault("zero")


def do_idiv(desk, taken):
    need_wholes(taken)
    return come_to((taken[0][0] // taken[1][0], 1))


def do_mod(desk, taken):
    need_wholes(taken)
    return come_to((taken[0][0] % taken[1][0], 1))


def do_neg(desk, taken):
    return come_to(minus(ZERO, taken[0]))


def do_abs(desk, taken):
    top, below = taken[0]
    return come_to((abs(top), below))


def do_floor(desk, taken):
    top, below = taken[0]
    return come_to((top // below, 1))


def do_ceiling(desk, taken):
    top, below = taken[0]
    return come_to((-(-top // below), 1))


SUM_DEEDS = {
    "pop": do_pop,
    "dup": do_dup,
    "exch": do_exch,
    "copy": do_copy,
    "index": do_index,
    "roll": do_roll,
    "clear": do_clear,
    "count": do_count,
    "mark": do_mark,
    "[": do_mark,
    "counttomark": do_counttomark,
    "cleartomark": do_cleartomark,
    "eq": do_eq,
    "ne": do_ne,
    "lt": do_lt,
    "le": do_le,
    "gt": do_gt,
    "ge": do_ge,
    "and": do_and,
    "or": do_or,
    "not": do_not,
    "true": do_true,
    "false": do_false,
    "null": do_null,
    "add": do_add,
    "sub": do_sub,
    "mul": do_mul,
    "div": do_div,
    "idiv": do_idiv,
    "mod": do_mod,
    "neg": do_neg,
    "abs": do_abs,
    "floor": do_floor,
    "ceiling": do_ceiling,
}


def do_sums(desk, name, taken):
    """Does the deed of one of these operators, and tells a list of the operands that it puts."""
    deed = SUM_DEEDS[name]
    return deed(desk, taken)
