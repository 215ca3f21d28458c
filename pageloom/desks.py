"""Desks: all that operators find and change."""

from pageloom.exact import text_of

# How is drawn, at first. What is drawn with is never changed in place but always made
# anew, so that gsave, save and the runs taken back can keep it as it is.
FIRST_HOW = {
    "matrix": ((1, 1), (0, 1), (0, 1), (1, 1), (0, 1), (0, 1)),
    "path": (),
    "ink": 1,
    "width": (1, 1),
    "clips": (),
    "letters": None,
}


class Fault(Exception):
    """What an operator comes to instead of its deed, told by its kind."""

    def __init__(self, kind):
        Exception.__init__(self, kind)
        self.kind = kind


def told(found):
    """What a sum tells; a fault where some number would have too many figures."""
    if found is None:
        raise Fault("range")
    return found


def operand_text(operand):
    """An operand as a text."""
    kind, what = operand
    if kind == "number":
        return text_of(what)
    if kind == "truth":
        return "true" if what else "false"
    if kind == "name":
        return "/" + what
    if kind == "text":
        return "(" + what + ")"
    return kind if kind == "null" else "-" + kind + "-"


def put_at(places, place, thing):
    """Lets a thing stand at a place of an array or dict; nothing, where the thing is None."""
    if thing is not None:
        places[place] = thing
    elif place in places:
        del places[place]


class Desk:
    """All that operators find and change: operands, arrays and dicts, how is drawn, deeds of ink, what goes on.

    An operand is a tuple (kind, what it is); for an array or dict this is its number on the desk,
    for a save its number among the saves. Numbers are never given twice, also not behind runs taken back.
    """

    def __init__(self, wide, high):
        self.wide = wide
        self.high = high
        self.operands = []
        # By their numbers, what arrays and dicts hold: operands by their places, or by names.
        self.held = {0: {}}
        self.made = 1
        # All changes of arrays and dicts: tuples (number, place, what stood there, what stands there).
        self.journal = []
        self.force = (0,)
        self.how = dict(FIRST_HOW)
        # What gsave kept: None, or a tuple of how was drawn and of what was kept ahead of it.
        self.kept = None
        self.inkings = ()
        self.shown = ()
        # Of each save that can be used, its number, and made, len of journal, how and kept at that time.
        self.saves = ()
        self.saved = 0
        # What goes on, the innermost last.
        self.frames = []
        self.left = 0
        self.outcome = None

    def make(self, places):
        """The number of a new array or dict that holds this."""
        number = self.made
        self.held[number] = places
        self.made += 1
        return number

    def write(self, number, place, thing):
        """Lets a thing stand at a place of an array or dict; nothing, where the thing is None."""
        places = self.held[number]
        old = places.get(place)
        if old != thing:
            self.journal.append((number, place, old, thing))
            put_at(places, place, thing)

    def row_of(self, number):
        """A list of all that stands in an array."""
        places = self.held[number]
        return [places[place] for place in range(len(places))]

    def meaning(self, name):
        """What a name stands for; None without."""
        for number in reversed(self.force):
            if name in self.held[number]:
                return self.held[number][name]
        return None

    def draw_with(self, part, thing):
        """Draws from now on with this as that part of how is drawn."""
        how = dict(self.how)
        how[part] = thing
        self.how = how

    def add_ink(self, deed):
        """Puts a deed of ink behind the others."""
        self.inkings = self.inkings + (deed,)

    def scene(self):
        """All but what arrays and dicts hold, as it is now."""
        return tuple(self.operands), self.force, self.how, self.kept, self.inkings, self.shown, self.saves

    def set_scene(self, scene):
        """Brings back a scene."""
        operands, self.force, self.how, self.kept, self.inkings, self.shown, self.saves = scene
        self.operands = list(operands)

    def take_back(self, changes):
        """Takes the last changes of arrays and dicts back."""
        for number, place, old, thing in reversed(changes):
            put_at(self.held[number], place, old)
        del self.journal[len(self.journal) - len(changes):]

    def do_again(self, changes):
        """Does changes of arrays and dicts that were taken back again."""
        for number, place, old, thing in changes:
            put_at(self.held[number], place, thing)
        self.journal.extend(changes)

    def twin(self):
        """A desk that is as this one, while nothing goes on, and shares nothing that is changed."""
        other = Desk(self.wide, self.high)
        other.set_scene(self.scene())
        other.held = {number: dict(places) for number, places in self.held.items()}
        other.made = self.made
        other.journal = list(self.journal)
        other.saved = self.saved
        other.outcome = self.outcome
        return other
