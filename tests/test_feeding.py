"""Point 19.1 and what 0.2 (f) says of programs fed in pieces."""

import inspect
import random
import unittest

from benches import all_of
from pageloom.errors import Busy, NoProgram, NoText
from pageloom.feeding import Feeder
from pageloom.machines import Machine
from programs import SETUP, left_behind, random_program, shown
from samples import NO_TEXTS


def fed(text, *cuts):
    """A machine and its feeder behind a text fed in pieces, cut at these places, and what was told each time."""
    machine = Machine(4, 4)
    feeder = Feeder(machine)
    told = []
    for start, end in zip((0,) + cuts, cuts + (len(text),)):
        told.append(feeder.feed(text[start:end]))
    return machine, feeder, told


class Feeds(unittest.TestCase):
    def check_waiting(self, text, kept, stack):
        """Fed whole or sign by sign, a text leaves this kept, and these operands."""
        for cuts in ((), tuple(range(1, len(text)))):
            with self.subTest(text=text, cuts=cuts):
                machine, feeder, told = fed(text, *cuts)
                self.assertEqual(feeder.waiting(), kept)
                self.assertEqual(" ".join(machine.stack()), stack)
                self.assertEqual(told, [None] * len(told))

    def test_interface(self):
        self.assertEqual(len(inspect.signature(Feeder).parameters), 1)
        feeder = Feeder(Machine(1, 1))
        for name, many in (("feed", 1), ("end", 0), ("waiting", 0)):
            self.assertEqual(len(inspect.signature(getattr(feeder, name)).parameters), many)

    def test_what_is_ready_and_what_is_kept(self):
        for text, kept, stack in (
            ("", "", ""), ("1", "1", ""), ("1 ", "", "1"), ("1 2", "2", "1"), ("1\n2", "2", "1"), ("1 2 add", "add", "1 2"), ("1 2 add\n", "", "3"),
            ("  \n ", "", ""), ("(a b)", "(a b)", ""), ("(a b) ", "", "(a b)"), ("1 (a b", "(a b", "1"), ("1(a b)2 ", "", "1 (a b) 2"),
            ("1 (a b)2", "(a b)2", "1"), ("# a b", "# a b", ""), ("1 # a b\n", "", "1"), ("1 # a b\n2", "2", "1"), ("1 # a ( { b\n2 ", "", "1 2"),
            ("{ 1 2 }", "{ 1 2 }", ""), ("{ 1 2 } ", "", "-proc-"), ("5 { 1 { 2 } 3 ", "{ 1 { 2 } 3 ", "5"), ("{ 1 { 2 } 3 } exec", "exec", "-proc-"),
            ("{ 1 } exec ", "", "1"), ("{ # } \n 1 } exec ", "", "1"), ("{ (}) } exec ", "", "(})"), ("(#) 1 ", "", "(#) 1"), ("({) 1 ", "", "({) 1"),
            ("[ 1 2] ", "", "-array-"), ("/a 1 def a ", "", "1"), ("1{ 2 }", "1{ 2 }", ""), ("1{ 2 }3 ", "", "1 -proc- 3"),
            ("5 # x", "# x", "5"), ("5 #", "#", "5"), ("5#", "5#", ""), ("5# x y", "5# x y", ""), ("5# x y\n", "", "5"), ("(a) (", "(", "(a)"),
        ):
            self.check_waiting(text, kept, stack)

    def test_end(self):
        for text, told, stack in (("1 2 add", None, "3"), ("1", None, "1"), ("", None, ""), ("1 ", None, "1"), ("{ 1 2 }", None, "-proc-"),
                                  ("(a b)", None, "(a b)"), ("1 # rest", None, "1"), ("1 pop pop", ("underflow", "pop"), "")):
            with self.subTest(text=text):
                machine, feeder, begun = fed(text)
                self.assertEqual(feeder.end(), told)
                self.assertEqual((feeder.waiting(), " ".join(machine.stack())), ("", stack))
                was = shown(machine)
                self.assertEqual(feeder.end(), told)
                self.assertEqual(shown(machine), was)

    def test_feeding_on_behind_the_end(self):
        machine, feeder, told = fed("1")
        feeder.end()
        self.assertIsNone(feeder.feed("2 3"))
        self.assertIsNone(feeder.end())
        self.assertEqual(machine.stack(), ["1", "2", "3"])

    def test_each_item_is_a_run(self):
        machine, feeder, told = fed("1 2 add { dup mul } exec # x\n (a)  ")
        self.assertEqual((machine.counts(), machine.stack()), ((6, 0), ["9", "(a)"]))
        machine.back()
        machine.back()
        self.assertEqual(machine.stack(), ["3", "-proc-"])
        self.assertIsNone(machine.ended())

    def test_each_item_has_its_steps(self):
        machine = Machine(1, 1, steps=2)
        feeder = Feeder(machine)
        self.assertIsNone(feeder.feed("1 2 3 4 5 6 7 "))
        self.assertEqual(feeder.feed("{ 1 2 } exec 3 "), ("limit", ""))
        self.assertEqual(machine.stack(), ["1", "2", "3", "4", "5", "6", "7", "1"])

    def test_up_to_the_first_fault(self):
        for text in ("1 2 (a) add 3 4 ", "1 2 (a) add 3 pop pop pop "):
            machine, feeder, told = fed(text, 5)
            self.assertEqual((machine.stack(), told), (["1", "2", "(a)"], [None, ("kind", "add")]))
            counts = machine.counts()
            self.assertEqual(counts, (4, 0))
            self.assertEqual(feeder.feed("5 6 7"), ("kind", "add"))
            self.assertEqual(feeder.waiting(), "7")
            self.assertEqual(feeder.end(), ("kind", "add"))
            self.assertEqual((machine.stack(), machine.counts(), feeder.waiting()), (["1", "2", "(a)"], counts, ""))

    def test_faults_in_fences_are_none(self):
        machine, feeder, told = fed("{ 1 0 div } stopped 5 ")
        self.assertEqual((machine.stack(), told), (["1", "0", "true", "5"], [None]))

    def test_a_second_feeder_begins_anew(self):
        machine, feeder, told = fed("pop 1 (a")
        self.assertEqual(told, [("underflow", "pop")])
        other = Feeder(machine)
        self.assertEqual((other.waiting(), other.feed("1 ")), ("", None))
        self.assertEqual((machine.stack(), feeder.waiting()), (["1"], "(a"))


class Refusals(unittest.TestCase):
    def test_no_text(self):
        machine, feeder, told = fed("1 2")
        was = shown(machine)
        for thing in NO_TEXTS:
            with self.assertRaises(NoText):
                feeder.feed(thing)
        self.assertEqual((shown(machine), feeder.waiting()), (was, "2"))

    def test_busy(self):
        machine, feeder, told = fed("1 2")
        machine.start("5 6")
        was = all_of(machine.desk)
        for piece in ("", " ", "3 4 ", "} ", "x"):
            with self.assertRaises(Busy):
                feeder.feed(piece)
        with self.assertRaises(Busy):
            feeder.end()
        with self.assertRaises(NoText):
            feeder.feed(None)
        self.assertEqual((all_of(machine.desk), feeder.waiting()), (was, "2"))
        self.assertIsInstance(Feeder(machine), Feeder)
        with self.assertRaises(Busy):
            Feeder(machine).end()
        machine.go(2)
        self.assertIsNone(feeder.end())
        self.assertEqual(machine.stack(), ["1", "5", "6", "2"])

    def test_what_can_not_be_read(self):
        for kept, piece, row, column in (
            ("", "} ", 1, 1), ("", "1 } ", 1, 3), ("1", "} ", 1, 2), ("", "A ", 1, 1), ("ab", "C ", 1, 3), ("(a ", "\n", 1, 1), ("(a", " b\n1 ", 1, 1),
            ("", "1\n2\n  / ", 3, 3), ("/", " ", 1, 1), ("12", "x ", 1, 1), ("{ 1\n", ") } ", 2, 1), ("{ 1\n2", "\n A } ", 3, 2), ("", "(a(b) ", 1, 1),
            ("", ") ", 1, 1), ("{ (a\n", " } ", 1, 3), ("", "{ " * 51 + "} " * 51, 1, 101),
        ):
            with self.subTest(kept=kept, piece=piece):
                machine = Machine(2, 2)
                feeder = Feeder(machine)
                self.assertIsNone(feeder.feed(kept))
                for turn in range(2):
                    with self.assertRaises(NoProgram) as met:
                        feeder.feed(piece)
                    self.assertEqual((met.exception.row, met.exception.column), (row, column))
                    self.assertEqual((feeder.waiting(), machine.stack(), machine.counts()), (kept, [], (0, 0)))

    def test_nothing_of_a_piece_is_done_then(self):
        machine, feeder, told = fed("1 2")
        for turn in range(2):
            with self.assertRaises(NoProgram) as met:
                feeder.feed(" 3 4\n5 } 6 ")
            self.assertEqual((met.exception.row, met.exception.column), (2, 3))
            self.assertEqual((feeder.waiting(), machine.stack(), machine.counts()), ("2", ["1"], (1, 0)))
        self.assertIsNone(feeder.feed(" 3 "))
        self.assertEqual(machine.stack(), ["1", "2", "3"])

    def test_end_of_what_can_not_be_read(self):
        for kept, row, column in (("{ 1 { 2 }", 1, 1), ("(a b", 1, 1), ("/", 1, 1), ("{ 1\n { 2", 2, 2), ("A", 1, 1), ("}", 1, 1)):
            with self.subTest(kept=kept):
                machine, feeder, told = fed("5 " + kept)
                for turn in range(2):
                    with self.assertRaises(NoProgram) as met:
                        feeder.end()
                    self.assertEqual((met.exception.row, met.exception.column), (row, column))
                    self.assertEqual((feeder.waiting(), machine.stack()), (kept, ["5"]))


class Pieces(unittest.TestCase):
    def test_cut_anywhere(self):
        text = "1 2 # a remark ( { \nadd/a{dup (x y) pop{mul}exec}def a 0 0 3 2 rect fill (a # b){ }forall [ 4 5]"
        machine, feeder, told = fed(text)
        feeder.end()
        was = left_behind(machine)
        for first in range(len(text) + 1):
            for second in range(first, len(text) + 1, 7):
                machine, feeder, told = fed(text, first, second)
                self.assertIsNone(feeder.end())
                self.assertEqual(left_behind(machine), was)

    def test_as_in_one(self):
        chance = random.Random(21)
        for turn in range(300):
            text = random_program(chance, 8).replace("} ", chance.choice(("} ", "}", "}\n", "} # } {\n")))
            machine, other = Machine(5, 4, steps=3000), Machine(5, 4, steps=3000)
            machine.run(SETUP)
            other.run(SETUP)
            outcome = machine.run(text)
            if outcome == ("limit", ""):
                continue
            feeder = Feeder(other)
            at = 0
            while at < len(text):
                many = chance.randrange(1, 12)
                told = feeder.feed(text[at:at + many])
                self.assertIn(told, (None, outcome))
                at += many
            self.assertEqual(feeder.end(), outcome, text)
            self.assertEqual(left_behind(other), left_behind(machine), text)
            self.assertEqual(feeder.waiting(), "")


if __name__ == "__main__":
    unittest.main()
