"""Machines: programs are run on them, taken back and done again."""

from pageloom.desks import Desk, operand_text
from pageloom.drawops import page_now
from pageloom.errors import Busy, Idle, NoBack, NoSteps
from pageloom.exact import is_within
from pageloom.inking import need_sides
from pageloom.reading import read_program
from pageloom.running import begin_run, go_on

MOST_STEPS = 20000


def need_steps(many):
    """Refuses what is no number of steps."""
    if not is_within(many, 1, MOST_STEPS):
        raise NoSteps("steps are a whole number from 1 to 20000")


class Machine:
    """A machine that does programs over a stack, and shows pages of so many cells."""

    def __init__(self, wide, high, *, steps=5000):
        need_sides(wide, high)
        need_steps(steps)
        self.steps = steps
        self.desk = Desk(wide, high)
        self.is_going = False
        # How many changes of arrays and dicts there were ahead of the run that goes on.
        self.changes_ahead = 0
        # The scene ahead of the run that goes on, or else the one that is now.
        self.now = self.desk.scene()
        # Runs to take back, and to do again, the next one last, each as a tuple
        # of the scenes ahead of it and behind it, and of its changes of arrays and dicts.
        self.past = []
        self.future = []

    def __len__(self):
        return len(self.desk.operands)

    def need_rest(self):
        """Refuses while a run goes on."""
        if self.is_going:
            raise Busy("a run goes on")

    def run(self, text):
        """Does a program, and tells None, or a tuple of the kind and the name of the fault that ended it."""
        self.start(text)
        while not self.go(MOST_STEPS):
            pass
        return self.ended()

    def start(self, text):
        """Begins a run of a program."""
        self.need_rest()
        items = read_program(text)
        self.future = []
        self.is_going = True
        self.changes_ahead = len(self.desk.journal)
        begin_run(self.desk, items, self.steps)

    def go(self, many=1):
        """Does so many steps of the run, or all that are left, and tells whether it is over."""
        if not self.is_going:
            raise Idle("no run goes on")
        need_steps(many)
        is_over = go_on(self.desk, many)
        if is_over:
            self.finish()
        return is_over

    def finish(self):
        """Keeps a run that is over, so that it can be taken back."""
        self.is_going = False
        ahead = self.now
        self.now = self.desk.scene()
        self.past.append((ahead, self.now, tuple(self.desk.journal[self.changes_ahead:])))

    def ended(self):
        """How the last run ended, as run tells it."""
        self.need_rest()
        return self.desk.outcome

    def stack(self):
        """A list of all operands as texts."""
        return [operand_text(operand) for operand in self.desk.operands]

    def page(self):
        """The page as it is."""
        return page_now(self.desk)

    def pages(self):
        """A list of all pages shown."""
        return list(self.desk.shown)

    def deeds(self):
        """A list of the deeds of ink since the last page shown."""
        return list(self.desk.inkings)

    def words(self):
        """A rising list of all names that stand for something."""
        return sorted({name for number in self.desk.force for name in self.desk.held[number]})

    def value(self, name):
        """What any text stands for, as a text; None without."""
        found = self.desk.meaning(name)
        return None if found is None else operand_text(found)

    def show_scene(self, scene):
        """Brings a scene back, behind no run."""
        self.now = scene
        self.desk.set_scene(scene)
        self.desk.outcome = None

    def back(self):
        """Takes the last run back that was not taken back yet."""
        self.need_rest()
        if not self.past:
            raise NoBack("there is no run to be taken back")
        ahead, behind, changes = self.past.pop()
        self.future.append((ahead, behind, changes))
        self.desk.take_back(changes)
        self.show_scene(ahead)

    def forth(self):
        """Does the run again that was taken back last."""
        self.need_rest()
        if not self.future:
            raise NoBack("there is no run to be done again")
        ahead, behind, changes = self.future.pop()
        self.past.append((ahead, behind, changes))
        self.desk.do_again(changes)
        self.show_scene(behind)

    def counts(self):
        """A tuple of how many runs can be taken back, and how many done again."""
        return len(self.past), len(self.future)

    def twin(self):
        """A machine that is as this one and shares nothing with it."""
        self.need_rest()
        other = Machine(self.desk.wide, self.desk.high, steps=self.steps)
        other.desk = self.desk.twin()
        other.now = self.now
        other.past = list(self.past)
        other.future = list(self.future)
        return other
