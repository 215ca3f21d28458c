"""Runs: programs done step by step over a desk."""

from pageloom.desks import Fault
from pageloom.flowops import meant
from pageloom.frames import Doing, Fence
from pageloom.operators import is_operator, perform


def do_item(desk, item):
    """Does an item."""
    kind, what = item
    if kind != "do":
        desk.operands.append(item)
    elif is_operator(what):
        perform(desk, what)
    else:
        found = meant(desk.meaning(what))[0]
        if found[0] == "proc":
            desk.frames.append(Doing(found[1]))
        else:
            desk.operands.append(found)


def break_off(desk, is_fenced):
    """Ends all that goes on, up to the innermost fence if there is one and it counts, and tells whether one was met."""
    while desk.frames:
        frame = desk.frames.pop()
        if is_fenced and isinstance(frame, Fence):
            return True
        frame.broken(desk)
    return False


def fail(desk, kind, name):
    """Lets a fault come: the innermost fence tells it, or the run ends with it."""
    if break_off(desk, True):
        desk.operands.append(("truth", True))
    else:
        desk.outcome = (kind, name)


def settle(desk):
    """Ends all that has no further step."""
    while desk.frames:
        frame = desk.frames[-1]
        try:
            if frame.goes_on(desk):
                return
            desk.frames.pop()
        except Fault as fault:
            # Letters alone come to faults at their end.
            fail(desk, fault.kind, "show")


def step(desk):
    """Does one step of what goes on."""
    frame = desk.frames[-1]
    # Rounds come to no faults, so that what does not come of an item comes of a letter.
    name = "show"
    try:
        if isinstance(frame, Doing):
            item = frame.next_item()
            name = item[1]
            do_item(desk, item)
        else:
            frame.begin(desk)
    except Fault as fault:
        fail(desk, fault.kind, name)
    settle(desk)


def begin_run(desk, items, steps):
    """Begins a run of a list of items that has so many steps."""
    desk.left = steps
    desk.outcome = None
    desk.frames.append(Doing(tuple(items)))
    settle(desk)


def go_on(desk, many):
    """Does so many steps of a run, or all that are left, and tells whether it is over."""
    for turn in range(many):
        if not desk.frames:
            break
        if desk.left == 0:
            break_off(desk, False)
            desk.outcome = ("limit", "")
            break
        desk.left -= 1
        step(desk)
    return not desk.frames
