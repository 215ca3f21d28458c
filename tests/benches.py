"""What the tests of operators share: desks on which programs are done, and how their faults are checked."""

import unittest

from pageloom.desks import Desk, Fault, operand_text
from pageloom.operators import perform
from pageloom.reading import read_program
from pageloom.running import begin_run, go_on

# An operand of each kind, as a program puts it.
OF_KIND = {
    "number": "7", "truth": "true", "name": "/x", "text": "(t)", "proc": "{ }", "array": "1 array", "dict": "dict", "mark": "mark",
    "null": "null", "save": "save",
}

# What each operator takes, as the document tells it: a letter for each kind.
KINDS = {
    "*": None, "n": "number", "b": "truth", "/": "name", "t": "text", "p": "proc", "a": "array", "d": "dict", "s": "save",
}
TAKEN = {
    "pop": "*", "dup": "*", "exch": "**", "copy": "n", "index": "n", "roll": "nn", "clear": "", "count": "", "mark": "", "[": "",
    "counttomark": "", "cleartomark": "", "eq": "**", "ne": "**", "lt": "**", "le": "**", "gt": "**", "ge": "**", "and": "bb",
    "or": "bb", "not": "b", "true": "", "false": "", "null": "", "add": "nn", "sub": "nn", "mul": "nn", "div": "nn", "idiv": "nn",
    "mod": "nn", "neg": "n", "abs": "n", "floor": "n", "ceiling": "n", "exec": "p", "if": "bp", "ifelse": "bpp", "repeat": "np",
    "loop": "p", "for": "nnnp", "forall": "*p", "exit": "", "stop": "", "stopped": "p", "array": "n", "]": "", "length": "*",
    "get": "**", "put": "***", "aload": "a", "astore": "a", "dict": "", "begin": "d", "end": "", "def": "/*", "load": "/",
    "known": "d/", "undef": "d/", "currentdict": "", "save": "", "restore": "s", "gsave": "", "grestore": "", "translate": "nn",
    "scale": "nn", "rotate": "n", "concat": "a", "transform": "nn", "itransform": "nn", "newpath": "", "moveto": "nn",
    "lineto": "nn", "rmoveto": "nn", "rlineto": "nn", "curveto": "nnnnnn", "closepath": "", "rect": "nnnn", "currentpoint": "",
    "pathbox": "", "setink": "n", "setwidth": "n", "fill": "", "eofill": "", "stroke": "", "clip": "", "eoclip": "",
    "initclip": "", "erase": "", "showpage": "", "setfont": "d", "show": "t", "stringwidth": "t",
}


def do_on(desk, text, steps=20000):
    """Does a program on a desk, and tells how it ended."""
    begin_run(desk, read_program(text), steps)
    while not go_on(desk, 20000):
        pass
    return desk.outcome


def stack_of(desk):
    return " ".join(operand_text(operand) for operand in desk.operands)


def all_of(desk):
    """All that an operator could change."""
    held = {number: dict(places) for number, places in desk.held.items()}
    return desk.scene(), held, desk.made, desk.saved, list(desk.journal), list(desk.frames)


class Bench(unittest.TestCase):
    def desk_behind(self, text):
        """A new desk behind a program that ends well."""
        desk = Desk(8, 8)
        self.assertIsNone(do_on(desk, text), text)
        return desk

    def check(self, text, stack):
        """A program ends well and leaves these operands."""
        with self.subTest(text=text):
            self.assertEqual(stack_of(self.desk_behind(text)), stack)

    def check_ends(self, text, outcome, stack):
        """A program ends with this, and leaves these operands."""
        with self.subTest(text=text):
            desk = Desk(8, 8)
            self.assertEqual(do_on(desk, text), outcome)
            self.assertEqual(stack_of(desk), stack)
            self.assertEqual(desk.frames, [])

    def check_fault(self, ahead, name, kind):
        """Behind a program an operator comes to a fault that changes nothing; a run ends with it, and a fence tells it."""
        with self.subTest(ahead=ahead, name=name):
            desk = self.desk_behind(ahead)
            was = all_of(desk)
            with self.assertRaises(Fault) as met:
                perform(desk, name)
            self.assertEqual(met.exception.kind, kind)
            self.assertEqual(all_of(desk), was)
            stack = stack_of(desk)
            self.assertEqual(do_on(desk, name), (kind, name))
            self.assertEqual(all_of(desk), was)
            self.assertIsNone(do_on(desk, "{ " + name + " } stopped"))
            self.assertEqual(stack_of(desk), (stack + " true").strip())
