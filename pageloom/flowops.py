"""What the operators do that lead a run, or have to do with arrays, dicts, names and saves.

The deeds are called as those of pageloom.sumops are.
"""

from pageloom.desks import Fault
from pageloom.frames import Counting, Doing, Fence, Loop, Repeat, Walk
from pageloom.kinds import TAKES
from pageloom.sumops import NULL, ZERO, as_many, last_mark, need_below, need_room

MOST_PLACES = 100


def do_exec(desk, taken):
    desk.frames.append(Doing(taken[0]))
    return []


def do_if(desk, taken):
    if taken[0]:
        desk.frames.append(Doing(taken[1]))
    return []


def do_ifelse(desk, taken):
    desk.frames.append(Doing(taken[1] if taken[0] else taken[2]))
    return []


def do_repeat(desk, taken):
    desk.frames.append(Repeat(taken[1], as_many(taken[0])))
    return []


def do_loop(desk, taken):
    desk.frames.append(Repeat(taken[0], -1))
    return []


def do_for(desk, taken):
    first, by, last, proc = taken
    if by == ZERO:
        raise Fault("range")
    desk.frames.append(Counting(proc, first, by, last))
    return []


def rows_of(desk, operand):
    """A list of the lists of operands that rounds over an operand put."""
    kind, what = operand
    if kind == "array":
        return [[thing] for thing in desk.row_of(what)]
    if kind == "dict":
        places = desk.held[what]
        return [[("name", name), places[name]] for name in sorted(places)]
    if kind == "text":
        return [[("text", sign)] for sign in what]
    raise Fault("kind")


def do_forall(desk, taken):
    desk.frames.append(Walk(taken[1], rows_of(desk, taken[0])))
    return []


def loop_at(frames):
    """The place of the innermost loop that goes on; a fault without one, or where a fence lies between."""
    at = len(frames) - 1
    while at >= 0 and not isinstance(frames[at], Fence):
        if isinstance(frames[at], Loop):
            return at
        at -= 1
    raise Fault("exit")


def do_exit(desk, taken):
    at = loop_at(desk.frames)
    while len(desk.frames) > at:
        frame = desk.frames.pop()
        frame.broken(desk)
    return []


def do_stop(desk, taken):
    raise Fault("stop")


def do_stopped(desk, taken):
    desk.frames.append(Fence())
    desk.frames.append(Doing(taken[0]))
    return []


def new_array(desk, things):
    """The list of the one operand that is a new array of a list of operands."""
    return [("array", desk.make({place: thing for place, thing in enumerate(things)}))]


def do_array(desk, taken):
    many = as_many(taken[0])
    if many > MOST_PLACES:
        raise Fault("range")
    return new_array(desk, [NULL] * many)


def do_close(desk, taken):
    at = last_mark(desk)
    things = desk.operands[at + 1:]
    if len(things) > MOST_PLACES:
        raise Fault("range")
    del desk.operands[at:]
    return new_array(desk, things)


def do_length(desk, taken):
    kind, what = taken[0]
    if kind == "text":
        many = len(what)
    elif kind == "array" or kind == "dict":
        many = len(desk.held[what])
    else:
        raise Fault("kind")
    return [("number", (many, 1))]


def place_in(desk, operand, where):
    """The place of an array, or of a dict, that an operand tells; a fault where it tells none."""
    kind, what = operand
    by, place = where
    if kind == "dict" and by == "name":
        return place
    if kind != "array" or by != "number":
        raise Fault("kind")
    at = as_many(place)
    if at >= len(desk.held[what]):
        raise Fault("range")
    return at


def meant(found):
    """The list of what a name stands for; a fault, where it stands for nothing."""
    if found is None:
        raise Fault("undefined")
    return [found]


def need_free(name):
    """A fault of an operator's name."""
    if name in TAKES:
        raise Fault("fixed")


def do_get(desk, taken):
    place = place_in(desk, taken[0], taken[1])
    return meant(desk.held[taken[0][1]].get(place))


def do_put(desk, taken):
    place = place_in(desk, taken[0], taken[1])
    if taken[0][0] == "dict":
        need_free(place)
    desk.write(taken[0][1], place, taken[2])
    return []


def do_aload(desk, taken):
    row = desk.row_of(taken[0])
    need_room(len(desk.operands) + len(row))
    return row + [("array", taken[0])]


def do_astore(desk, taken):
    many = len(desk.held[taken[0]])
    need_below(desk, taken, many)
    last = len(desk.operands) - 1
    for place, thing in enumerate(desk.operands[last - many:last]):
        desk.write(taken[0], place, thing)
    del desk.operands[last - many:last]
    return [("array", taken[0])]


def do_dict(desk, taken):
    return [("dict", desk.make({}))]


def do_begin(desk, taken):
    desk.force = desk.force + (taken[0],)
    return []


def do_end(desk, taken):
    if len(desk.force) == 1:
        raise Fault("ends")
    desk.force = desk.force[:-1]
    return []


def do_def(desk, taken):
    need_free(taken[0])
    desk.write(desk.force[-1], taken[0], taken[1])
    return []


def do_load(desk, taken):
    return meant(desk.meaning(taken[0]))


def do_known(desk, taken):
    return [("truth", taken[1] in desk.held[taken[0]])]


def do_undef(desk, taken):
    desk.write(taken[0], taken[1], None)
    return []


def do_currentdict(desk, taken):
    return [("dict", desk.force[-1])]


def do_save(desk, taken):
    number = desk.saved
    desk.saved += 1
    desk.saves = desk.saves + ((number, desk.made, len(desk.journal), desk.how, desk.kept),)
    return [("save", number)]


def save_at(saves, number):
    """The place of the save of this number among those that can be used; a fault without it."""
    at = len(saves) - 1
    # They stand in the order of their numbers, so that none ahead of a lesser one is asked.
    while at >= 0 and saves[at][0] > number:
        at -= 1
    if at < 0 or saves[at][0] != number:
        raise Fault("save")
    return at


def held_then(desk, made, since):
    """By number and place, what stood at each place changed since then, of all arrays and dicts that were there."""
    was = {}
    for number, place, old, thing in desk.journal[since:]:
        if number < made:
            was.setdefault((number, place), old)
    return was


def do_restore(desk, taken):
    at = save_at(desk.saves, taken[0])
    number, made, since, desk.how, desk.kept = desk.saves[at]
    desk.saves = desk.saves[:at]
    was = held_then(desk, made, since)
    for (changed, place), old in was.items():
        desk.write(changed, place, old)
    return []


FLOW_DEEDS = {
    "exec": do_exec,
    "if": do_if,
    "ifelse": do_ifelse,
    "repeat": do_repeat,
    "loop": do_loop,
    "for": do_for,
    "forall": do_forall,
    "exit": do_exit,
    "stop": do_stop,
    "stopped": do_stopped,
    "array": do_array,
    "]": do_close,
    "length": do_length,
    "get": do_get,
    "put": do_put,
    "aload": do_aload,
    "astore": do_astore,
    "dict": do_dict,
    "begin": do_begin,
    "end": do_end,
    "def": do_def,
    "load": do_load,
    "known": do_known,
    "undef": do_undef,
    "currentdict": do_currentdict,
    "save": do_save,
    "restore": do_restore,
}


def do_flow(desk, name, taken):
    """Does the deed of one of these operators, and tells a list of the operands that it puts."""
    deed = FLOW_DEEDS[name]
    return deed(desk, taken)
