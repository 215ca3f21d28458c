"""What goes on in a run: items that are done, loops, fences.

Each frame has goes_on, which is asked when all that it began is over and tells whether it has
a further step, and broken, for what is due when it is over before its time; all but
Doing have begin, which does the next step: a round, or a letter.
"""

from pageloom.exact import is_less, plus


class Frame:
    """What goes on, of any form."""

    def broken(self, desk):
        """What is due when this is over before its time: nothing, where nothing else is said."""
        pass


class Doing(Frame):
    """Items that are done one behind the other."""

    def __init__(self, row):
        self.row = row
        self.at = 0

    def goes_on(self, desk):
        return self.at < len(self.row)

    def next_item(self):
        """The next item, which is about to be done."""
        item = self.row[self.at]
        self.at += 1
        return item


class Loop(Frame):
    """A loop of any form."""

    def __init__(self, proc):
        self.proc = proc

    def begin_round(self, desk, things):
        """Begins a round with these operands put."""
        desk.operands.extend(things)
        desk.frames.append(Doing(self.proc))


class Repeat(Loop):
    """So many rounds; below 0, rounds without end."""

    def __init__(self, proc, many):
        Loop.__init__(self, proc)
        self.many = many

    def goes_on(self, desk):
        return self.many != 0

    def begin(self, desk):
        """Begins the next round."""
        self.many -= 1
        self.begin_round(desk, [])


class Counting(Loop):
    """A round for each number up to a last one, with it put."""

    def __init__(self, proc, number, by, last):
        Loop.__init__(self, proc)
        self.number = number
        self.by = by
        self.last = last

    def goes_on(self, desk):
        if self.number is None:
            return False
        low, high = (self.number, self.last) if self.by[0] > 0 else (self.last, self.number)
        return not is_less(high, low)

    def begin(self, desk):
        """Begins the next round."""
        number = self.number
        self.number = plus(number, self.by)
        self.begin_round(desk, [("number", number)])


class Walk(Loop):
    """A round for each of some rows of operands, with them put."""

    def __init__(self, proc, rows):
        Loop.__init__(self, proc)
        self.rows = rows
        self.at = 0

    def goes_on(self, desk):
        return self.at < len(self.rows)

    def begin(self, desk):
        """Begins the next round."""
        self.at += 1
        self.begin_round(desk, self.rows[self.at - 1])


class Fence(Frame):
    """What lets no fault through."""

    def goes_on(self, desk):
        desk.operands.append(("truth", False))
        return False
