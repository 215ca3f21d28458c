"""Points 9.1, 9.2 and 10.1, and what 8.2 says of faults, for all operators."""

import itertools
import random
import unittest
from fractions import Fraction

from benches import KINDS, OF_KIND, TAKEN, Bench
from pageloom.desks import Desk, Fault
from pageloom.exact import text_of
from pageloom.kinds import PUTS, TAKES
from pageloom.operators import perform
from samples import MOST, num

# Operands that lead to other faults, too, where an operator would come to look at them.
ODD = {"n": "-1:2", "b": "true", "/": "/add", "t": "(q)", "p": "{ }", "a": "3 array", "d": "dict", "s": "save dup restore"}


class Operands(Bench):
    def test_all_operators_are_there(self):
        self.assertEqual({name: len(kinds) for name, kinds in TAKES.items()}, {name: len(kinds) for name, kinds in TAKEN.items()})

    def test_underflow_comes_first(self):
        for name, kinds in TAKEN.items():
            for many in range(len(kinds)):
                self.check_fault("mark " * many, name, "underflow")
                self.check_fault("-1:2 " * many, name, "underflow")

    def test_kind_comes_next(self):
        for name, kinds in TAKEN.items():
            for at, letter in enumerate(kinds):
                if letter == "*":
                    continue
                for kind, text in OF_KIND.items():
                    if kind != KINDS[letter]:
                        ahead = [ODD.get(other, "null") for other in kinds]
                        ahead[at] = text
                        self.check_fault(" ".join(ahead), name, "kind")

    def test_what_is_put_is_as_many_as_told(self):
        for name, many in PUTS.items():
            right = {"n": "2", "b": "true", "/": "/v", "t": "(a)", "p": "{ }", "a": "[ 1 0 0 1 0 0 ]", "d": "letters", "s": "save"}
            ahead = {
                "pop": "1", "length": "(a)", "get": "[ 1 ] 0", "put": "[ 1 ] 0 2", "counttomark": "mark", "end": "dict begin",
                "eq": "1 1", "ne": "1 1", "lt": "1 1", "le": "1 1", "gt": "1 1", "ge": "1 1", "def": "/w 1",
            }.get(name, " ".join(right.get(letter, "") for letter in TAKEN[name]))
            setup = "/v 1 def /letters dict def letters /a [ 1 { } ] put letters setfont 0 0 moveto "
            with self.subTest(name=name):
                desk = self.desk_behind(setup + ahead)
                was = len(desk.operands)
                perform(desk, name)
                self.assertEqual(len(desk.operands), was - len(TAKEN[name]) + many)


class Stack(Bench):
    def test_pop_dup_exch(self):
        for text in OF_KIND.values():
            self.check(f"9 {text} pop", "9")
        self.check("1 dup", "1 1")
        self.check("1 (a) dup", "1 (a) (a)")
        self.check("{ 1 } dup", "-proc- -proc-")
        self.check("1 2 exch", "2 1")
        self.check("0 1 (b) exch", "0 (b) 1")
        self.check("mark null exch", "null -mark-")

    def test_dup_is_the_same_thing(self):
        self.check("1 array dup 0 5 put", "-array-")
        self.check("1 array dup dup 0 5 put 0 get", "-array- 5")
        self.check("dict dup eq", "true")

    def test_copy(self):
        self.check("1 2 3 2 copy", "1 2 3 2 3")
        self.check("1 2 3 3 copy", "1 2 3 1 2 3")
        self.check("1 2 3 1 copy", "1 2 3 3")
        self.check("1 2 3 0 copy", "1 2 3")
        self.check("0 copy", "")
        self.check("/a (b) 4:2 copy", "/a (b) /a (b)")

    def test_index(self):
        self.check("5 6 7 0 index", "5 6 7 7")
        self.check("5 6 7 1 index", "5 6 7 6")
        self.check("5 6 7 2 index", "5 6 7 5")
        self.check("mark 0 index", "-mark- -mark-")

    def test_roll(self):
        self.check("1 2 3 3 1 roll", "3 1 2")
        self.check("1 2 3 3 -1 roll", "2 3 1")
        self.check("1 2 3 3 2 roll", "2 3 1")
        self.check("1 2 3 3 3 roll", "1 2 3")
        self.check("1 2 3 3 0 roll", "1 2 3")
        self.check("1 2 3 3 -302 roll", "3 1 2")
        self.check("1 2 3 3 301 roll", "3 1 2")
        self.check("1 2 3 0 5 roll", "1 2 3")
        self.check("0 5 roll", "")
        self.check("0 -5 roll", "")
        self.check("1 2 3 1 5 roll", "1 2 3")
        self.check("1 2 3 4 2 1 roll", "1 2 4 3")
        self.check("1 2 3 4 3 -1 roll", "1 3 4 2")

    def test_roll_by_hand(self):
        for many, by in itertools.product(range(6), range(-8, 9)):
            row = list(range(many))
            for turn in range(by % many if many else 0):
                row = row[-1:] + row[:-1]
            told = " ".join(str(one) for one in ["9"] + row)
            self.check(f"9 {' '.join(str(one) for one in range(many))} {many} {by} roll", told)

    def test_wrong_numbers(self):
        for name, ahead in itertools.product(("copy", "index"), ("1 2 3 -1", "1 2 3 1:2", "-1", "1:2", "1 2 3 -1:2", "1 2 1.5")):
            self.check_fault(ahead, name, "range")
        for ahead in ("1 2 3 -1 1", "1 2 3 1:2 1", "1 2 3 3 1:2", "9 1:2", "-1 0", "1 2 3 0 1:2"):
            self.check_fault(ahead, "roll", "range")

    def test_too_few(self):
        for ahead in ("1", "1 2 3 4", "1 2 " + str(MOST)):
            self.check_fault(ahead, "copy", "underflow")
        for ahead in ("0", "1 1", "1 2 3 3", "1 2 " + str(MOST)):
            self.check_fault(ahead, "index", "underflow")
        for ahead in ("1 0", "1 2 3 4 1", "1 2 3 4 0", "1 2 3 " + str(MOST) + " 1"):
            self.check_fault(ahead, "roll", "underflow")

    def test_a_thousand_operands(self):
        self.check("500 { 1 } repeat 500 copy count", "1 " * 1000 + "1000")
        self.check("999 { 1 } repeat 1 copy count", "1 " * 1000 + "1000")
        self.check("1000 { 1 } repeat 0 copy count", "1 " * 1000 + "1000")
        self.check_fault("501 { 1 } repeat 500", "copy", "range")
        self.check_fault("1000 { 1 } repeat 1", "copy", "range")
        self.check_fault("1001 { 1 } repeat 0", "copy", "range")
        self.check_fault("600 { 1 } repeat 601", "copy", "underflow")
        self.check("1001 { 1 } repeat dup 5 index 1001 1 roll count", "1 " * 1003 + "1003")

    def test_clear_and_count(self):
        self.check("1 mark (a) clear", "")
        self.check("clear", "")
        self.check("count", "0")
        self.check("5 6 count", "5 6 2")
        self.check("mark 1 count", "-mark- 1 2")

    def test_marks(self):
        self.check("mark [", "-mark- -mark-")
        self.check("mark counttomark", "-mark- 0")
        self.check("1 [ 5 6 7 counttomark", "1 -mark- 5 6 7 3")
        self.check("mark 1 [ 5 counttomark", "-mark- 1 -mark- 5 1")
        self.check("1 mark 5 6 cleartomark", "1")
        self.check("mark cleartomark", "")
        self.check("mark 1 [ 5 cleartomark", "-mark- 1")

    def test_without_a_mark(self):
        for name, ahead in itertools.product(("counttomark", "cleartomark"), ("", "1 2", "(mark) null", "[ ]", "{ [ }")):
            self.check_fault(ahead, name, "mark")


class Comparisons(Bench):
    def test_of_unlike_kinds_none_are_equal(self):
        for one, other in itertools.permutations([kind for kind in OF_KIND if kind != "proc"], 2):
            desk = self.desk_behind(f"{OF_KIND[one]} {OF_KIND[other]} eq")
            self.assertEqual(desk.operands, [("truth", False)])
            desk = self.desk_behind(f"{OF_KIND[one]} {OF_KIND[other]} ne")
            self.assertEqual(desk.operands, [("truth", True)])

    def test_of_one_kind(self):
        for one, other, holds in (
            ("1", "1", True), ("1:2", "0.5", True), ("1", "2", False), ("0", "-0", True), ("true", "true", True), ("true", "false", False),
            ("false", "false", True), ("/a", "/a", True), ("/a", "/b", False), ("(a)", "(a)", True), ("(a)", "(b)", False),
            ("()", "()", True), ("mark", "[", True), ("null", "null", True), ("1 array", "1 array", False), ("[ ]", "[ ]", False),
            ("dict", "dict", False), ("[ 1 ]", "dup", True), ("dict", "dup", True), ("save", "dup", True), ("save", "save", False),
            ("currentdict", "currentdict", True), ("1", "true", False), ("0", "false", False), ("(a)", "/a", False),
            ("(1)", "1", False), ("null", "0", False), ("null", "false", False), ("()", "null", False),
        ):
            self.check(f"{one} {other} eq", "true" if holds else "false")
            self.check(f"{one} {other} ne", "false" if holds else "true")

    def test_procs_are_not_compared(self):
        for name in ("eq", "ne"):
            self.check_fault("{ } dup", name, "kind")
            for kind, text in OF_KIND.items():
                self.check_fault(f"{{ }} {text}", name, "kind")
                self.check_fault(f"{text} {{ }}", name, "kind")

    def test_order(self):
        for one, other in itertools.product(("-1", "0", "1:3", "1:2", "0.5", "2", "10"), repeat=2):
            first, second = (Fraction(text.replace(":", "/")) for text in (one, other))
            told = [str(holds).lower() for holds in (first < second, first <= second, first > second, first >= second)]
            for name, holds in zip(("lt", "le", "gt", "ge"), told):
                self.check(f"{one} {other} {name}", holds)
        for one, other in itertools.product(("", "a", "ab", "b", "B", " ", "a b", "10", "9"), repeat=2):
            told = [str(holds).lower() for holds in (one < other, one <= other, one > other, one >= other)]
            for name, holds in zip(("lt", "le", "gt", "ge"), told):
                self.check(f"({one}) ({other}) {name}", holds)

    def test_order_of_other_kinds(self):
        for name in ("lt", "le", "gt", "ge"):
            for one, other in itertools.product(OF_KIND, repeat=2):
                if (one, other) not in (("number", "number"), ("text", "text")):
                    self.check_fault(f"{OF_KIND[one]} {OF_KIND[other]}", name, "kind")

    def test_truths(self):
        self.check("true false null", "true false null")
        for one, other in itertools.product((True, False), repeat=2):
            ahead = f"{one} {other} ".lower()
            self.check(ahead + "and", str(one and other).lower())
            self.check(ahead + "or", str(one or other).lower())
        self.check("true not", "false")
        self.check("false not", "true")


class Sums(Bench):
    def test_by_fractions(self):
        chance = random.Random(10)
        sums = {
            "add": lambda one, other: one + other, "sub": lambda one, other: one - other, "mul": lambda one, other: one * other,
            "div": lambda one, other: one / other,
        }
        for turn in range(200):
            one = Fraction(chance.randrange(-30, 31), chance.randrange(1, 9))
            other = Fraction(chance.randrange(-30, 31), chance.randrange(1, 9))
            for name, by in sums.items():
                if other or name != "div":
                    self.check(f"{text_of(num(one))} {text_of(num(other))} {name}", text_of(num(by(one, other))))

    def test_order_of_operands(self):
        self.check("7 2 sub", "5")
        self.check("7 2 div", "7:2")
        self.check("7 2 idiv", "3")
        self.check("7 2 mod", "1")
        self.check("9 1 2 add", "9 3")

    def test_whole_quotients(self):
        for one, other in itertools.product(range(-9, 10), (-4, -3, -1, 1, 3, 4)):
            whole = Fraction(one, other).__floor__()
            self.check(f"{one} {other} idiv", str(whole))
            self.check(f"{one} {other} mod", str(one - whole * other))

    def test_of_one(self):
        for text, neg, size, low, high in (
            ("0", "0", "0", "0", "0"), ("5", "-5", "5", "5", "5"), ("-5", "5", "5", "-5", "-5"), ("5:2", "-5:2", "5:2", "2", "3"),
            ("-5:2", "5:2", "5:2", "-3", "-2"), ("1:3", "-1:3", "1:3", "0", "1"), ("-1:3", "1:3", "1:3", "-1", "0"),
            (str(MOST), str(-MOST), str(MOST), str(MOST), str(MOST)),
        ):
            for name, told in (("neg", neg), ("abs", size), ("floor", low), ("ceiling", high)):
                self.check(f"{text} {name}", told)

    def test_zero(self):
        for ahead in ("1 0", "0 0", "1:2 0", f"{MOST} 0"):
            self.check_fault(ahead, "div", "zero")
        for name in ("idiv", "mod"):
            self.check_fault("1 0", name, "zero")
            self.check_fault("0 0", name, "zero")
            for ahead in ("1:2 0", "1:2 1", "1 1:2", "1:2 1:2", "4 0.5"):
                self.check_fault(ahead, name, "range")

    def test_too_many_figures(self):
        for ahead, name in (
            (f"{MOST} 1", "add"), (f"{-MOST} 1", "sub"), (f"{MOST} {MOST}", "mul"), (f"{MOST} 2", "mul"), (f"1:{MOST} 2", "div"),
            (f"1:{MOST} 1:2", "mul"), (f"1:{MOST} 1:{MOST - 1}", "add"), (f"1:{MOST} {MOST}", "div"), (f"{MOST} 1:2", "div"),
        ):
            self.check_fault(ahead, name, "range")
        self.check(f"{MOST - 1} 1 add", str(MOST))
        self.check(f"{MOST} {MOST} div", "1")
        self.check(f"{MOST} 1:{MOST} mul", "1")

    def test_one_number_reached_in_many_ways(self):
        for text in ("1 3 div 3 mul", "0.25 4 mul", "6 4:8 div 12 div", "2 1 sub", "1 neg neg", "-1 abs", "1.9 floor", "0.1 ceiling"):
            self.check(text, "1")
            self.check(text + " 1 eq", "true")


class Faults(unittest.TestCase):
    def test_a_fault_tells_its_kind(self):
        with self.assertRaises(Fault) as met:
            perform(Desk(1, 1), "pop")
        self.assertEqual(met.exception.kind, "underflow")


if __name__ == "__main__":
    unittest.main()
