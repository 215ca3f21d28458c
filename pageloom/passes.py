"""Programs made shorter that do the same."""

from pageloom.desks import Desk, Fault
from pageloom.kinds import TAKES
from pageloom.operators import perform
from pageloom.reading import count_items, program_text, read_program

LITERALS = ("number", "text", "name", "proc")
TRUTHS = (("do", "true"), ("do", "false"))
LITERAL_WORDS = (("do", "true"), ("do", "false"), ("do", "null"))
NUMBER_ZERO = ("number", (0, 1))


def is_literal(item):
    """Whether an item puts what it is."""
    return item[0] in LITERALS or item in LITERAL_WORDS


def is_proc(item):
    """Whether an item is a proc."""
    return item[0] == "proc"


def items_of(operands):
    """A list of the items that put some operands, which are numbers or truths."""
    return [operand if operand[0] == "number" else TRUTHS[0 if operand[1] else 1] for operand in operands]


# Each rule below is handed the items ahead of an operator, and the operator's
# name. It tells how many of them go, with the operator, and a list of the items that
# stand in their place; None where it does not hold.


def fold_sum(ahead, word):
    many = len(TAKES[word])
    numbers = ahead[-many:]
    if len(numbers) < many or not all([item[0] == "number" for item in numbers]):
        return None
    desk = Desk(1, 1)
    desk.operands.extend(numbers)
    try:
        perform(desk, word)
    except Fault:
        return None
    return many, items_of(desk.operands)


def fold_pop(ahead, word):
    return (1, []) if ahead and is_literal(ahead[-1]) else None


def fold_dup(ahead, word):
    if not ahead or not is_literal(ahead[-1]) or is_proc(ahead[-1]):
        return None
    return 1, [ahead[-1], ahead[-1]]


def fold_exch(ahead, word):
    if len(ahead) < 2 or not is_literal(ahead[-1]) or not is_literal(ahead[-2]):
        return None
    return 2, [ahead[-1], ahead[-2]]


def fold_not(ahead, word):
    if not ahead or ahead[-1] not in TRUTHS:
        return None
    return 1, [TRUTHS[1 - TRUTHS.index(ahead[-1])]]


def fold_exec(ahead, word):
    return (1, list(ahead[-1][1])) if ahead and is_proc(ahead[-1]) else None


def fold_if(ahead, word):
    if len(ahead) < 2 or not is_proc(ahead[-1]) or ahead[-2] not in TRUTHS:
        return None
    return 2, list(ahead[-1][1]) if ahead[-2] == TRUTHS[0] else []


def fold_ifelse(ahead, word):
    if len(ahead) < 3 or not is_proc(ahead[-1]) or not is_proc(ahead[-2]) or ahead[-3] not in TRUTHS:
        return None
    return 3, list(ahead[-2][1] if ahead[-3] == TRUTHS[0] else ahead[-1][1])


def fold_repeat(ahead, word):
    return (2, []) if len(ahead) >= 2 and is_proc(ahead[-1]) and ahead[-2] == NUMBER_ZERO else None


FOLDS = {
    "add": fold_sum,
    "sub": fold_sum,
    "mul": fold_sum,
    "div": fold_sum,
    "idiv": fold_sum,
    "mod": fold_sum,
    "neg": fold_sum,
    "abs": fold_sum,
    "floor": fold_sum,
    "ceiling": fold_sum,
    "lt": fold_sum,
    "le": fold_sum,
    "gt": fold_sum,
    "ge": fold_sum,
    "eq": fold_sum,
    "ne": fold_sum,
    "pop": fold_pop,
    "dup": fold_dup,
    "exch": fold_exch,
    "not": fold_not,
    "exec": fold_exec,
    "if": fold_if,
    "ifelse": fold_ifelse,
    "repeat": fold_repeat,
}


def found_fold(ahead, item):
    """What a rule tells of an item and those ahead of it; None without a rule that holds."""
    kind, what = item
    if kind != "do" or what not in FOLDS:
        return None
    fold = FOLDS[what]
    return fold(ahead, what)


def folded_items(items):
    """A list of items that do the same as some items."""
    waiting = [("proc", tuple(folded_items(what))) if kind == "proc" else (kind, what) for kind, what in items]
    waiting = waiting[::-1]
    # Nothing more can be done in what is done, so that only an operator behind it brings on more.
    done = []
    while waiting:
        item = waiting.pop()
        found = found_fold(done, item)
        if found is None:
            done.append(item)
        else:
            many, instead = found
            del done[len(done) - many:]
            waiting.extend(instead[::-1])
    return done


def folded(text):
    """The writing of a program that does the same as this one, with no more items."""
    return program_text(folded_items(read_program(text)))


def spared(text):
    """How many items fewer the folded program has, those within procs, too."""
    items = read_program(text)
    return count_items(items) - count_items(folded_items(items))
