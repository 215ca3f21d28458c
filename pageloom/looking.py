"""What a program needs of the stack, and leaves there, told without running it."""

from pageloom.kinds import PUTS, TAKES
from pageloom.reading import read_program

MOST_MOVED = 100


class Unknown(Exception):
    """What a program needs and leaves can not be told."""


class Sight:
    """What is known of the stack at a place of a program.

    Of each operand that stands there instead of those needed: None, ("number", n) of a literal
    number, or ("proc", effect) of a literal proc, its effect None where it can not be told.
    """

    def __init__(self):
        self.needs = 0
        self.known = []

    def need(self, many):
        """Reaches down to so many operands, also to those that were there ahead of the program."""
        missing = many - len(self.known)
        if missing > 0:
            self.needs += missing
            self.known = [None] * missing + self.known

    def take(self, many):
        """Takes so many operands, and tells a list of what is known of them."""
        self.need(many)
        at = len(self.known) - many
        taken = self.known[at:]
        del self.known[at:]
        return taken

    def take_one(self):
        """Takes one operand, and tells what is known of it."""
        return self.take(1)[0]

    def put(self, many):
        """Puts so many operands of which nothing is known."""
        self.known.extend([None] * many)

    def take_whole(self):
        """Takes a literal whole number, not above 100."""
        seen = self.take_one()
        if seen is None or seen[0] != "number":
            raise Unknown("there is no number right there")
        top, below = seen[1]
        if below != 1 or top > MOST_MOVED:
            raise Unknown("this number is no whole one, or too great")
        return top

    def take_many(self):
        """Takes a literal whole number from 0 to 100."""
        many = self.take_whole()
        if many < 0:
            raise Unknown("this number is below 0")
        return many

    def take_proc(self):
        """Takes a literal proc, and tells its effect."""
        seen = self.take_one()
        if seen is None or seen[0] != "proc" or seen[1] is None:
            raise Unknown("there is no proc right there that can be told")
        return seen[1]


def see_dup(sight):
    taken = sight.take(1)
    sight.known.extend(taken + taken)


def see_exch(sight):
    taken = sight.take(2)
    sight.known.extend(taken[::-1])


def see_copy(sight):
    taken = sight.take(sight.take_many())
    sight.known.extend(taken + taken)


def see_index(sight):
    taken = sight.take(sight.take_many() + 1)
    sight.known.extend(taken + taken[:1])


def see_roll(sight):
    by = sight.take_whole()
    many = sight.take_many()
    taken = sight.take(many)
    cut = many - by % many if many > 0 else 0
    sight.known.extend(taken[cut:] + taken[:cut])


def see_exec(sight):
    needs, leaves = sight.take_proc()
    sight.take(needs)
    sight.put(leaves)


def see_rounds(sight, needs, leaves):
    """Sees a proc done any number of times, which has to leave as many as it needs."""
    if needs != leaves:
        raise Unknown("it can not be told how often the proc is done")
    sight.take(1)
    sight.take(needs)
    sight.put(needs)


def see_if(sight):
    needs, leaves = sight.take_proc()
    see_rounds(sight, needs, leaves)


def see_ifelse(sight):
    other_needs, other_leaves = sight.take_proc()
    needs, leaves = sight.take_proc()
    if leaves - needs != other_leaves - other_needs:
        raise Unknown("it can not be told which proc is done")
    sight.take(1)
    most = max(needs, other_needs)
    sight.take(most)
    sight.put(most + leaves - needs)


def see_for(sight):
    needs, leaves = sight.take_proc()
    sight.take(2)
    # Each round puts a number, which is the first one that the proc needs.
    see_rounds(sight, needs - 1, leaves)


SEEN = {
    "dup": see_dup,
    "exch": see_exch,
    "copy": see_copy,
    "index": see_index,
    "roll": see_roll,
    "exec": see_exec,
    "if": see_if,
    "ifelse": see_ifelse,
    "repeat": see_if,
    "for": see_for,
}


def see_word(sight, word):
    """Sees a name to be done."""
    if word in SEEN:
        see = SEEN[word]
        see(sight)
    elif word in PUTS:
        sight.take(len(TAKES[word]))
        sight.put(PUTS[word])
    else:
        raise Unknown("this can not be told")


def see_item(sight, item):
    """Sees an item."""
    kind, what = item
    if kind == "do":
        see_word(sight, what)
    elif kind == "number":
        sight.known.append(item)
    elif kind == "proc":
        # Told once, where the proc stands, however often it is moved and done.
        sight.known.append((kind, effect_of(what)))
    else:
        sight.put(1)


def effect_of(items):
    """What items need and leave, or None."""
    sight = Sight()
    try:
        for item in items:
            see_item(sight, item)
    except Unknown:
        return None
    return sight.needs, len(sight.known)


def effect(text):
    """A tuple of how many operands a program needs, and how many it leaves in their place; None if not to be told."""
    return effect_of(read_program(text))
