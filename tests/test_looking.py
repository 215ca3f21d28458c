"""Point 17.1 and 0.2 (g)."""

import inspect
import random
import unittest

from benches import TAKEN
from pageloom.errors import NoProgram
from pageloom.kinds import PUTS, TAKES
from pageloom.looking import SEEN, effect
from pageloom.machines import Machine
from programs import SETUP, random_program
from samples import NO_TEXTS, UNREADABLE

# How many operands operators that take and put a fixed number of them put, as the document tells it, where it is not 0.
PUT = {
    "count": 1, "mark": 1, "[": 1, "counttomark": 1, "eq": 1, "ne": 1, "lt": 1, "le": 1, "gt": 1, "ge": 1, "and": 1, "or": 1, "not": 1,
    "true": 1, "false": 1, "null": 1, "add": 1, "sub": 1, "mul": 1, "div": 1, "idiv": 1, "mod": 1, "neg": 1, "abs": 1, "floor": 1,
    "ceiling": 1, "array": 1, "length": 1, "get": 1, "dict": 1, "load": 1, "known": 1, "currentdict": 1, "save": 1, "transform": 2,
    "itransform": 2, "currentpoint": 2, "pathbox": 4, "stringwidth": 1,
}
MOVING = ("dup", "exch", "copy", "index", "roll")
DOING = ("exec", "if", "ifelse", "repeat", "for")
UNTOLD = ("]", "clear", "cleartomark", "aload", "astore", "forall", "loop", "exit", "stop", "stopped", "show")
OPERANDS = ("1", "-3:2", "0", "true", "(a)", "/q", "{ }", "{ dup }", "[ 1 2 ]", "dict", "mark", "null", "save", "2", "5", "1", "2")


class Effects(unittest.TestCase):
    def check(self, text, told):
        with self.subTest(text=text):
            self.assertEqual(effect(text), told)

    def test_interface(self):
        self.assertEqual(len(inspect.signature(effect).parameters), 1)

    def test_nothing(self):
        for text in ("", " \n", "# remark"):
            self.check(text, (0, 0))

    def test_literals(self):
        self.check("1 (a) /b { c }", (0, 4))
        self.check("{ nothing stop ] }", (0, 1))

    def test_fixed_operators(self):
        for name, kinds in TAKEN.items():
            if name not in MOVING + DOING + UNTOLD:
                needs, leaves = len(kinds), PUT.get(name, 0)
                self.check(name, (needs, leaves))
                self.check("1 2 3 " + name, (max(needs - 3, 0), max(3 - needs, 0) + leaves))
        self.assertEqual(set(PUTS) | set(SEEN) | set(UNTOLD), set(TAKES))
        self.assertEqual(set(SEEN), set(MOVING + DOING))

    def test_what_can_not_be_told(self):
        for name in UNTOLD + ("nothing", "a", "foo-1"):
            for text in (name, "1 2 3 " + name, name + " 1", f"[ 1 2 {name}", f"(a) {{ }} {name}", f"{{ {name} }} exec", f"[ 1 ] {{ }} {name}"):
                self.check(text, None)

    def test_needs_and_leaves_add_up(self):
        for text, told in (
            ("add add", (3, 1)), ("1 add", (1, 1)), ("pop 1", (1, 1)), ("1 pop", (0, 0)), ("pop pop 1 2 3", (2, 3)), ("1 2 add mul", (1, 1)),
            ("moveto lineto", (4, 0)), ("pathbox", (0, 4)), ("pathbox add", (0, 3)), ("pop pathbox", (1, 4)), ("rect 5", (4, 1)),
            ("add 1 2 3 put", (2, 1)), ("add 1 put", (3, 0)), ("curveto currentpoint", (6, 2)),
        ):
            self.check(text, told)

    def test_dup_and_exch(self):
        self.check("dup", (1, 2))
        self.check("exch", (2, 2))
        self.check("1 exch", (1, 2))
        self.check("dup dup", (1, 3))
        self.check("exch pop", (2, 1))

    def test_copy_index_roll(self):
        for text, told in (
            ("0 copy", (0, 0)), ("1 copy", (1, 2)), ("3 copy", (3, 6)), ("100 copy", (100, 200)), ("101 copy", None), ("4:2 copy", (2, 4)),
            ("0 index", (1, 2)), ("3 index", (4, 5)), ("100 index", (101, 102)), ("101 index", None), ("3 1 roll", (3, 3)),
            ("0 1 roll", (0, 0)), ("100 1 roll", (100, 100)), ("101 1 roll", None), ("3 100 roll", (3, 3)), ("3 101 roll", None),
            ("3 -1 roll", (3, 3)), ("3 -1000 roll", (3, 3)), ("1 2 3 2 copy", (0, 5)), ("1 2 3 1 index", (0, 4)), ("1 2 3 3 1 roll", (0, 3)),
            ("1 2 5 1 roll", (3, 5)), ("copy", None), ("index", None), ("roll", None), ("3 roll", None), ("1 2 add copy", None),
            ("(a) copy", None), ("{ } index", None), ("true 1 roll", None), ("3 true roll", None), ("/a copy", None), ("count copy", None),
        ):
            self.check(text, told)

    def test_numbers_that_end_in_a_fault(self):
        for text in ("-1 copy", "1:2 copy", "-1 index", "1:2 index", "-1 1 roll", "1:2 1 roll", "3 1:2 roll"):
            self.check(text, None)

    def test_numbers_that_were_moved(self):
        for text, told in (
            ("2 dup copy", (1, 4)), ("2 1 exch copy", (1, 4)), ("3 1 exch pop copy", (1, 2)), ("2 5 pop copy", (2, 4)),
            ("2 0 index copy", (1, 4)), ("2 1 copy copy", (1, 4)), ("2 7 8 3 -1 roll copy", (0, 4)), ("2 7 8 3 1 roll copy", (5, 14)),
            ("1 2 2 1 roll roll", (2, 2)), ("2 1 index copy", None), ("1 pop 2 copy", (2, 4)), ("2 1 1 add pop copy", (2, 4)),
            ("2 (a) pop copy", (2, 4)), ("2 dup pop copy", (2, 4)), ("2 neg neg copy", None), ("2 /a pop copy", (2, 4)),
            ("3 2 1 roll 1 copy", (1, 3)),
        ):
            self.check(text, told)

    def test_exec(self):
        for text, told in (
            ("{ } exec", (0, 0)), ("{ add } exec", (2, 1)), ("1 { add } exec", (1, 1)), ("{ { dup } exec } exec", (1, 2)), ("exec", None),
            ("1 exec", None), ("{ nothing } exec", None), ("{ 1 } { 2 } exec", (0, 2)), ("{ 1 } { 2 } exec exec", None),
            ("{ 1 } { 2 } exch exec", (0, 2)), ("{ 1 } { 2 } exch exec exch exec", (0, 2)), ("{ copy } exec", None), ("3 { copy } exec", None),
            ("{ 3 } exec copy", None), ("{ { 1 } } exec exec", None), ("{ dup } dup exec", (0, 2)), ("{ 1 } dup exec exch exec", (0, 2)),
            ("{ 1 } 5 { pop } exec exec", (0, 1)), ("{ 1 } 5 { pop pop } exec exec", None), ("{ dup } 1 index exec", None),
            ("{ 1 } { exch } exec exec", None), ("(a) { dup } exec", (0, 2)),
        ):
            self.check(text, told)

    def test_if(self):
        for text, told in (
            ("{ } if", (1, 0)), ("true { } if", (0, 0)), ("{ 1 add } if", (2, 1)), ("{ 1 } if", None), ("{ pop } if", None), ("if", None),
            ("true { 1 2 add pop } if", (0, 0)), ("5 true { 1 add } if", (0, 1)), ("5 true { add add 1 1 } if", (2, 3)),
            ("true { nothing } if", None), ("2 true { 1 add } if copy", None), ("2 5 true { 1 add } if pop copy", (2, 4)),
        ):
            self.check(text, told)

    def test_ifelse(self):
        for text, told in (
            ("{ } { } ifelse", (1, 0)), ("{ 1 } { 2 } ifelse", (1, 1)), ("{ pop } { add } ifelse", (3, 1)), ("{ add } { pop } ifelse", (3, 1)),
            ("{ 1 } { } ifelse", None), ("{ } ifelse", None), ("1 { } ifelse", None), ("{ } 1 ifelse", None), ("ifelse", None),
            ("{ nothing } { } ifelse", None), ("{ } { nothing } ifelse", None), ("{ 1 2 } { dup exch 1 } ifelse", (2, 3)),
            ("true { pop } { pop } ifelse", (1, 0)), ("{ pop pop 1 } { pop } ifelse", (3, 1)), ("{ 4 index } { 1 } ifelse", (6, 6)),
        ):
            self.check(text, told)

    def test_repeat(self):
        for text, told in (
            ("{ } repeat", (1, 0)), ("3 { } repeat", (0, 0)), ("3 { 1 add } repeat", (1, 1)), ("3 { 1 } repeat", None),
            ("0 { 1 } repeat", None), ("3 { pop } repeat", None), ("repeat", None), ("5 3 { 1 add } repeat", (0, 1)),
            ("{ exch } repeat", (3, 2)), ("3 { nothing } repeat", None),
        ):
            self.check(text, told)

    def test_for(self):
        for text, told in (
            ("{ pop } for", (3, 0)), ("1 1 3 { pop } for", (0, 0)), ("1 1 3 { add } for", (1, 1)), ("0 1 1 3 { add } for", (0, 1)),
            ("1 1 3 { } for", None), ("1 1 3 { pop pop } for", None), ("1 1 3 { 1 pop pop } for", (0, 0)), ("for", None),
            ("1 1 3 { dup } for", None), ("1 1 3 { add add 1 } for", (2, 2)), ("1 1 3 { 1 } for", None), ("1 1 3 { nothing pop } for", None),
            ("1 1 3 { nothing } for", None), ("1 1 3 5 for", None),
        ):
            self.check(text, told)

    def test_what_procs_touch_is_not_right_there(self):
        for text in ("2 true { 1 mul } if copy", "2 true { 1 mul } { 2 mul } ifelse copy", "2 3 { 1 mul } repeat copy",
                     "2 1 1 3 { mul } for copy", "2 { 1 mul } exec copy"):
            self.check(text, None)

    def test_deep_procs(self):
        text = "1"
        for depth in range(50):
            text = "{ " + text + " } dup pop exec"
        self.check(text, (0, 1))
        text = "1"
        for depth in range(50):
            text = "{ " + text + " pop 1 } dup exec exch pop"
        self.check(text, (0, 1))

    def test_wrong(self):
        for text, row, column in UNREADABLE:
            with self.assertRaises(NoProgram) as met:
                effect(text)
            self.assertEqual((met.exception.row, met.exception.column), (row, column))
        for thing in NO_TEXTS:
            with self.assertRaises(NoProgram):
                effect(thing)


def told_program(chance, size, depth=3):
    """A program of operators most of which can be told."""
    words = []
    for turn in range(chance.randrange(size + 1)):
        choice = chance.random()
        if choice < 0.45:
            words.append(chance.choice(OPERANDS[:8]))
        elif choice < 0.6:
            words.append(chance.choice(("dup", "exch", "2 copy", "1 index", "3 1 roll", "4 -1 roll", "pop", "0 copy", "2 index")))
        elif choice < 0.75 and depth > 0:
            inner = "{ " + told_program(chance, size // 2, depth - 1) + " }"
            other = "{ " + told_program(chance, size // 2, depth - 1) + " }"
            words.append(chance.choice((
                f"{inner} exec", f"true {inner} if", f"false {inner} if", f"{inner} {other} ifelse", f"2 {inner} repeat",
                f"1 1 3 {inner} for", inner, f"{inner} exch exec", f"{inner} {other} 2 copy pop pop exec exec",
            )))
        else:
            words.append(chance.choice(sorted(PUTS)))
    return " ".join(words)


class Runs(unittest.TestCase):
    def test_no_underflow_and_as_many_left(self):
        chance = random.Random(19)
        told = well = 0
        for turn in range(3000):
            text = told_program(chance, 8) if chance.random() < 0.8 else random_program(chance, 4)
            found = effect(text)
            if found is None:
                continue
            told += 1
            needs, leaves = found
            for more in (0, 1, 3):
                machine = Machine(3, 3)
                machine.run(SETUP + "save pop")
                for place in range(needs + more):
                    # Mostly numbers, which most operators take, so that most runs come far.
                    machine.run(chance.choice(OPERANDS) if chance.random() < 0.3 else "1")
                self.assertEqual(len(machine), needs + more)
                outcome = machine.run(text)
                self.assertTrue(outcome is None or outcome[0] != "underflow", (text, outcome))
                if outcome is None:
                    well += 1
                    self.assertEqual(len(machine), leaves + more, text)
        self.assertGreater(told, 1000)
        self.assertGreater(well, 500)

    def test_with_fewer_there_is_an_underflow(self):
        for text in ("add", "1 add", "dup", "exch", "3 copy", "2 index", "3 1 roll", "pop pop 1", "{ add } exec", "curveto", "put", "1 2 5 1 roll"):
            needs = effect(text)[0]
            for fewer in range(needs):
                machine = Machine(1, 1)
                machine.run("1 " * fewer)
                self.assertEqual(machine.run(text)[0], "underflow", (text, fewer))


if __name__ == "__main__":
    unittest.main()
