"""Point 18.1 and 0.2 (h)."""

import inspect
import itertools
import random
import unittest

from pageloom.errors import NoProgram
from pageloom.machines import Machine
from pageloom.passes import folded, spared
from pageloom.reading import count_items, program_text, read_program
from programs import SETUP, left_behind, random_program
from samples import MOST, NO_TEXTS, UNREADABLE

LITERALS = ("1", "-1:2", "(a b)", "/name", "{ x }", "true", "false", "null")
FOLDING = (
    "1", "2", "-1:2", "0", "(a)", "/q", "true", "false", "null", "add", "sub", "mul", "div", "idiv", "mod", "neg", "abs", "floor", "ceiling", "lt",
    "le", "gt", "ge", "eq", "ne", "pop", "dup", "exch", "not", "exec", "if", "ifelse", "repeat", "{ # }", "{ # }", "{ # } exec",
    "true { # } if", "false { # } { # } ifelse", "0 { # } repeat", "1 2", "3 4 add", "c", "b",
)


class Folds(unittest.TestCase):
    def check(self, text, told):
        with self.subTest(text=text):
            self.assertEqual(folded(text), told)
            self.assertEqual(spared(text), count_items(read_program(text)) - count_items(read_program(told)))

    def check_same(self, text):
        self.check(text, program_text(read_program(text)))

    def test_interface(self):
        for call in (folded, spared):
            self.assertEqual(len(inspect.signature(call).parameters), 1)

    def test_as_program_text(self):
        self.check(" /a{dup\nmul}def # remark", "/a { dup mul } def")
        self.check("", "")
        self.check("0.5 4:2", "1:2 2")
        self.assertEqual(spared(" /a{dup\nmul}def # remark"), 0)

    def test_sums(self):
        for text, told in (
            ("1 2 add", "3"), ("1 2 sub", "-1"), ("2 3 mul", "6"), ("1 2 div", "1:2"), ("-7 2 idiv", "-4"), ("-7 2 mod", "1"), ("5 neg", "-5"),
            ("-1:2 abs", "1:2"), ("-1:2 floor", "-1"), ("-1:2 ceiling", "0"), ("1 2 lt", "true"), ("2 2 le", "true"), ("1 2 gt", "false"),
            ("1 2 ge", "false"), ("1 1.0 eq", "true"), ("1 1 ne", "false"), ("a 1 2 add b", "a 3 b"), ("1 2 3 add", "1 5"), ("1 2 3 add add", "6"),
            ("1 2 add 3 mul 4 sub neg", "-5"), ("1 neg neg", "1"),
        ):
            self.check(text, told)

    def test_sums_that_are_none(self):
        for text in (
            "1 0 div", "1 0 idiv", "1 0 mod", "1:2 1 idiv", "1 1:2 mod", f"{MOST} 1 add", f"{MOST} 2 mul", "1 (a) add", "(a) 1 lt", "(a) (b) lt",
            "(a) (a) eq", "/a /a eq", "true true eq", "null null ne", "a 1 add", "1 a add", "add", "1 add", "neg", "a neg", "(a) neg", "true neg",
            "1 true add", "{ } { } eq", "1 { } eq", "1 2 copy", "2 0 index", "1 2 2 1 roll", "true false and", "true false or", "[ 1 ]", "1 count",
        ):
            self.check_same(text)

    def test_pop(self):
        for literal in LITERALS:
            self.check(f"a {literal} pop b", "a b")
            self.check(f"{literal} 1 pop pop", "")
        self.check("{ 1 2 add } pop", "")
        for text in ("pop", "a pop", "1 a pop", "mark pop", "[ pop", "1 array pop", "dict pop"):
            self.check_same(text)

    def test_dup(self):
        for literal in LITERALS:
            if literal == "{ x }":
                self.check_same(literal + " dup")
            else:
                self.check(f"{literal} dup", f"{literal} {literal}")
        self.check("2 dup mul", "4")
        self.check("2 dup dup mul mul", "8")
        self.check_same("dup")
        self.check_same("a dup")
        self.check_same("mark dup")
        self.assertEqual(spared("1 dup"), 0)

    def test_exch(self):
        for one, other in itertools.product(LITERALS, repeat=2):
            self.check(f"{one} {other} exch", f"{other} {one}")
        self.check("1 2 exch sub", "1")
        self.check("1 2 3 exch", "1 3 2")
        for text in ("exch", "1 exch", "a 1 exch", "1 a exch", "mark 1 exch", "1 count exch"):
            self.check_same(text)

    def test_not(self):
        self.check("true not", "false")
        self.check("false not", "true")
        self.check("true not not not", "false")
        self.check("1 2 lt not", "false")
        for text in ("not", "1 not", "null not", "a not", "true a not"):
            self.check_same(text)

    def test_exec(self):
        self.check("{ 1 2 } exec", "1 2")
        self.check("1 { 2 add } exec", "3")
        self.check("{ } exec", "")
        self.check("{ { a } exec } exec", "a")
        self.check("{ a { b } } exec exec", "a b")
        self.check("{ exec } { a } exch exec", "a")
        self.check("{ exit } exec", "exit")
        for text in ("exec", "a exec", "1 exec", "{ a } b exec"):
            self.check_same(text)

    def test_if(self):
        self.check("true { a b } if", "a b")
        self.check("false { a b } if", "")
        self.check("1 2 lt { a } if", "a")
        self.check("5 true { 1 add } if", "6")
        for text in ("if", "{ a } if", "c { a } if", "1 { a } if", "true a if", "true { a } b if", "null { a } if"):
            self.check_same(text)

    def test_ifelse(self):
        self.check("true { a } { b } ifelse", "a")
        self.check("false { a } { b } ifelse", "b")
        self.check("1 2 gt { a } { 1 1 add } ifelse", "2")
        for text in ("ifelse", "{ a } { b } ifelse", "{ b } ifelse", "c { a } { b } ifelse", "true { a } c ifelse", "true a { b } ifelse",
                     "1 { a } { b } ifelse"):
            self.check_same(text)

    def test_repeat(self):
        self.check("0 { a } repeat", "")
        self.check("1 1 sub { a } repeat 5", "5")
        for text in ("repeat", "{ a } repeat", "1 { a } repeat", "c { a } repeat", "0 a repeat", "false { a } repeat"):
            self.check_same(text)

    def test_within_procs_first(self):
        self.check("{ 1 2 add }", "{ 3 }")
        self.check("/a { { 1 pop } { 2 3 mul } } def", "/a { { } { 6 } } def")
        self.check("3 { 1 2 add pop } repeat", "3 { } repeat")
        self.check("{ 1 pop } { 2 } exch", "{ 2 } { }")
        self.check("{ 0 { } repeat } loop", "{ } loop")
        self.check("{ { { 1 1 eq { a } if } exec } } exec", "{ a }")

    def test_as_long_as_something_can_be(self):
        self.check("{ 1 } exec { 2 } exec add true { 3 } if exch pop dup mul", "9")
        self.check("true { false { a } { { 4 } exec 2 div } ifelse } if 2 eq { (yes) } { (no) } ifelse", "(yes)")
        self.check("1 2 exch exch pop pop", "")
        self.check("(a) dup dup pop exch pop", "(a)")
        self.check("0 0 div 1 pop", "0 0 div")
        self.check("1 0 div 2 3 add", "1 0 div 5")

    def test_deep_procs(self):
        text = "1"
        for depth in range(50):
            text = "{ " + text + " 1 add } exec"
        self.check(text, "51")

    def test_wrong(self):
        for call in (folded, spared):
            for text, row, column in UNREADABLE:
                with self.assertRaises(NoProgram) as met:
                    call(text)
                self.assertEqual((met.exception.row, met.exception.column), (row, column))
            for thing in NO_TEXTS:
                with self.assertRaises(NoProgram):
                    call(thing)


def folding_program(chance, size, depth=3):
    """A program with much to be folded."""
    words = []
    for turn in range(chance.randrange(size + 1)):
        pieces = chance.choice(FOLDING).split("#")
        text = pieces[0]
        for piece in pieces[1:]:
            text += (folding_program(chance, size // 2, depth - 1) if depth else "") + piece
        words.append(text)
    return " ".join(words)


class Same(unittest.TestCase):
    def test_a_folded_program_ends_as_the_program_does(self):
        chance = random.Random(20)
        spared_items = seen = 0
        for turn in range(3000):
            text = folding_program(chance, 12) if chance.random() < 0.6 else random_program(chance, 6)
            short = folded(text)
            many = spared(text)
            self.assertGreaterEqual(many, 0, text)
            self.assertEqual(many, count_items(read_program(text)) - count_items(read_program(short)))
            self.assertEqual((folded(short), spared(short)), (short, 0), text)
            machine, other = Machine(5, 4, steps=3000), Machine(5, 4, steps=3000)
            machine.run(SETUP + "1 2 (x)")
            other.run(SETUP + "1 2 (x)")
            outcome = machine.run(text)
            if outcome == ("limit", ""):
                continue
            seen += 1
            spared_items += many
            self.assertEqual(other.run(short), outcome, (text, short))
            self.assertEqual(left_behind(other), left_behind(machine), (text, short))
        self.assertGreater(seen, 2500)
        self.assertGreater(spared_items, 3000)


if __name__ == "__main__":
    unittest.main()
