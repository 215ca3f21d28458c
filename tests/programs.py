"""Programs made by chance, and all that a machine shows."""

from pageloom.kinds import TAKES
from pageloom.machines import Machine

NAMES = "abcd"
SETUP = (
    "/a [ 1 2 (x) ] def /b { dup } def /c 5 def /l dict def l /a [ 1:2 { 0 0 1 1 rect fill } ] put l /b [ 2 { c pop exit } ] put "
    "l /c [ 1 { gsave 7 setink { nothing } stopped pop } ] put l setfont 1 1 moveto "
)
# Pieces that mostly end well, in some of which # stands for a program of their own.
PIECES = (
    "{ # } stopped pop", "{ # } stopped { clear } if", "true { # } if", "false { # } if", "true { # } { # } ifelse", "false { # } { # } ifelse",
    "{ # } exec", "2 { # } repeat", "0 { # } repeat", "{ # exit } loop", "1 1 3 { # } for", "1 -1:2 0 { pop # } for", "[ 1 2 ] { # } forall",
    "(ab) { # } forall", "[ # ]", "/d { # } def", "d", "{ # stop } stopped pop", "1 2 add", "3 4 mul 5 sub", "7 2 idiv 7 2 mod", "1 0 div",
    "1 2 lt not", "2 2 eq", "(a) (b) lt", "1 pop", "(q) dup pop", "1 2 exch", "{ 1 } pop", "null dup eq", "/a 1 def", "/b [ 3 4 ] def", "c", "b",
    "/a load", "dict begin", "end", "currentdict /c 8 put", "currentdict /a known", "currentdict /d undef", "a", "a length", "3 array 1 5 put",
    "3 array dup 0 7 put aload pop", "1 2 2 array astore", "save", "save restore", "restore", "gsave", "grestore", "1 2 translate", "2 1 scale",
    "1 rotate", "[ 1 0 1 1 0 0 ] concat", "3 4 transform", "3 4 itransform", "newpath", "2 3 moveto", "4 5 lineto", "1 1 rmoveto", "2 1 rlineto",
    "1 2 3 4 5 6 curveto", "closepath", "1 1 3 2 rect", "currentpoint", "pathbox", "4 setink", "3:2 setwidth", "fill", "eofill", "stroke", "clip",
    "eoclip", "initclip", "erase", "showpage", "(ac) show", "(ab) show", "() show", "(aa) stringwidth", "l setfont", "mark", "counttomark",
    "cleartomark", "count", "clear", "1 2 3 3 1 roll", "1 2 2 copy", "4 0 index", "-5:2 abs floor", "1:3 neg ceiling", "(x y)", "/name", "-1.5",
)
WORDS = tuple(sorted(TAKES)) + tuple(NAMES)


def random_piece(chance, size, depth):
    """A piece of a program, with programs of about so many pieces in it."""
    if chance.random() < 0.15:
        return chance.choice(WORDS)
    text, *pieces = chance.choice(PIECES).split("#")
    for piece in pieces:
        text += (random_program(chance, size, depth - 1) if depth > 0 else "") + piece
    return text


def random_program(chance, size, depth=3):
    """A program of at most so many pieces, in most programs each in a fence, so that a fault does not end them soon."""
    parts = [random_piece(chance, size // 2, depth) for turn in range(chance.randrange(size + 1))]
    if depth == 3 and chance.random() < 0.7:
        parts = [f"{{ {piece} }} stopped pop" for piece in parts]
    return " ".join(parts)


def shown(machine):
    """All that a machine shows."""
    words = machine.words()
    return (
        machine.stack(), len(machine), machine.page(), machine.pages(), machine.deeds(), words, [machine.value(word) for word in words],
        machine.counts(),
    )


def deep(desk, operand, depth=4):
    """An operand with all that stands in it, but for what procs are."""
    kind, what = operand
    if kind in ("array", "dict") and depth > 0:
        return kind, {place: deep(desk, thing, depth - 1) for place, thing in desk.held[what].items()}
    return (kind, what) if kind in ("number", "truth", "name", "text") else kind


def left_behind(machine):
    """All that a run leaves for the next ones, but for what procs are, and how many runs there were."""
    desk = machine.desk
    how = {part: thing for part, thing in desk.how.items() if part != "letters"}
    operands = [deep(desk, operand) for operand in desk.operands]
    return operands, [deep(desk, ("dict", number)) for number in desk.force], how, shown(machine)[:7]


def machine_behind(text, wide=7, high=5, steps=4000):
    """A machine behind the setup and a program."""
    machine = Machine(wide, high, steps=steps)
    machine.run(SETUP)
    machine.run(text)
    return machine
