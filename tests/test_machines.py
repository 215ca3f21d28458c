"""Points 8.1, 8.2, 8.3, 16.1 and 16.2, and what 0.3 and the interface say of machines."""

import inspect
import random
import unittest

from benches import OF_KIND, all_of
from pageloom import machines
from pageloom.errors import Busy, Idle, NoBack, NoProgram, NoSize, NoSteps, PageError
from pageloom.inking import is_deed, painted
from pageloom.machines import Machine
from programs import SETUP, random_program, shown
from samples import NO_TEXTS, ODD_THINGS, UNREADABLE, box, part

NO_STEPS = (0, 20001, -1, True, False, None, "1", "", 10 ** 30, [], [1], (), (1,), (1, 1))


class Interface(unittest.TestCase):
    def test_machine(self):
        self.assertEqual(str(inspect.signature(Machine)), "(wide, high, *, steps=5000)")
        for name, many in (("run", 1), ("start", 1), ("go", 1), ("ended", 0), ("stack", 0), ("page", 0), ("pages", 0), ("deeds", 0),
                           ("words", 0), ("value", 1), ("back", 0), ("forth", 0), ("counts", 0), ("twin", 0)):
            self.assertEqual(len(inspect.signature(getattr(Machine(1, 1), name)).parameters), many, name)
        self.assertEqual(inspect.signature(Machine.go).parameters["many"].default, 1)

    def test_sizes(self):
        for wide, high in ((1, 1), (64, 64), (1, 64), (64, 1)):
            page = Machine(wide, high).page()
            self.assertEqual((len(page), len(page[0])), (high, wide))
        for wrong in ODD_THINGS + (0, 65, -1, True, "1", None, (1, 1)):
            if wrong in (1, 7) and wrong is not True:
                continue
            for wide, high in ((wrong, 1), (1, wrong), (wrong, wrong)):
                with self.assertRaises(NoSize):
                    Machine(wide, high)
                with self.assertRaises(NoSize):
                    Machine(wide, high, steps=0)

    def test_steps(self):
        for steps in (1, 2, 5000, 20000):
            machine = Machine(1, 1, steps=steps)
            self.assertEqual(machine.run("{ } loop"), ("limit", ""))
        for wrong in NO_STEPS:
            with self.assertRaises(NoSteps):
                Machine(1, 1, steps=wrong)

    def test_steps_are_5000_where_none_are_told(self):
        self.assertIsNone(Machine(1, 1).run("1 " * 5000))
        self.assertEqual(Machine(1, 1).run("1 " * 5001), ("limit", ""))
        self.assertIsNone(Machine(1, 1, steps=20000).run("1 " * 20000))
        self.assertEqual(Machine(1, 1, steps=20000).run("1 " * 20001), ("limit", ""))


class Runs(unittest.TestCase):
    def test_what_is_put(self):
        machine = Machine(2, 2)
        self.assertIsNone(machine.run("1 -1:2 /name (a text) { 1 2 } true false null mark 1 array dict save"))
        self.assertEqual(machine.stack(), [
            "1", "-1:2", "/name", "(a text)", "-proc-", "true", "false", "null", "-mark-", "-array-", "-dict-", "-save-",
        ])
        self.assertEqual(len(machine), 12)

    def test_each_kind_as_a_text(self):
        told = {
            "number": "7", "truth": "true", "name": "/x", "text": "(t)", "proc": "-proc-", "array": "-array-", "dict": "-dict-",
            "mark": "-mark-", "null": "null", "save": "-save-",
        }
        for kind, text in OF_KIND.items():
            machine = Machine(2, 2)
            self.assertIsNone(machine.run(f"/x {text} def {text}"))
            self.assertEqual(machine.stack(), [told[kind]])
            self.assertEqual(machine.value("x"), told[kind])

    def test_runs_go_on_where_the_last_one_left_off(self):
        machine = Machine(4, 4)
        self.assertIsNone(machine.run("1 /two { 2 } def 3 setink [ 4"))
        self.assertIsNone(machine.run("two ] 1 1 moveto"))
        self.assertIsNone(machine.run("1 get 2 2 lineto 3 1 lineto fill"))
        self.assertEqual(machine.stack(), ["1", "2"])
        self.assertEqual(machine.deeds(), [("fill", (part((1, 1), (2, 2), (3, 1)),), "whole", 3, ())])

    def test_how_a_run_ended(self):
        machine = Machine(2, 2)
        self.assertIsNone(machine.ended())
        for text, outcome in (
            ("1", None), ("", None), ("# remark", None), ("clear pop", ("underflow", "pop")), ("(a) 1 add", ("kind", "add")),
            ("nothing", ("undefined", "nothing")), ("1 0 div", ("zero", "div")), ("stop", ("stop", "stop")), ("]", ("mark", "]")),
            ("exit", ("exit", "exit")), ("end", ("ends", "end")), ("/add 1 def", ("fixed", "def")), ("currentpoint", ("point", "currentpoint")),
            ("save dup restore restore", ("save", "restore")), ("16 setink", ("range", "setink")), ("{ } loop", ("limit", "")),
            ("{ { { nothing } exec } loop } exec", ("undefined", "nothing")), ("{ stop } stopped", None),
        ):
            with self.subTest(text=text):
                self.assertEqual(machine.run(text), outcome)
                self.assertEqual(machine.ended(), outcome)
                self.assertIsNone(machine.run("1 pop"))

    def test_what_can_not_be_read_does_nothing(self):
        machine = Machine(4, 4)
        machine.run("1 2 /a 3 def 1 1 moveto stop")
        machine.run("4")
        machine.back()
        machine.run("stop")
        machine.back()
        was = shown(machine), all_of(machine.desk), machine.ended()
        for text, row, column in UNREADABLE:
            for call in (machine.run, machine.start):
                with self.assertRaises(NoProgram) as met:
                    call(text)
                self.assertEqual((met.exception.row, met.exception.column), (row, column))
        for thing in NO_TEXTS:
            for call in (machine.run, machine.start):
                with self.assertRaises(NoProgram) as met:
                    call(thing)
                self.assertEqual((met.exception.row, met.exception.column), (0, 0))
        self.assertEqual((shown(machine), all_of(machine.desk), machine.ended()), was)
        self.assertEqual(machine.counts(), (1, 1))

    def test_as_many_steps_as_it_needs(self):
        for text, steps in (
            ("1 2 add", 3), ("{ 1 } stopped", 3), ("{ { 1 } stopped } stopped", 5), ("3 { 1 } repeat", 9), ("{ 1 0 div } stopped", 5),
            ("{ exit } loop", 4), ("/l dict def l /a [ 1 { 5 } ] put l setfont 0 0 moveto (aa) show", 17 + 4), ("nothing", 1),
        ):
            with self.subTest(text=text):
                self.assertNotEqual(Machine(1, 1, steps=steps).run(text), ("limit", ""))
                if steps > 1:
                    self.assertEqual(Machine(1, 1, steps=steps - 1).run(text), ("limit", ""))

    def test_each_run_has_its_steps(self):
        machine = Machine(1, 1, steps=3)
        for turn in range(3):
            self.assertIsNone(machine.run("1 2 3"))
            self.assertEqual(machine.run("1 2 3 4"), ("limit", ""))
        self.assertEqual(machine.stack(), ["1", "2", "3"] * 6)


class Slices(unittest.TestCase):
    def test_step_by_step(self):
        machine = Machine(1, 1)
        self.assertIsNone(machine.start("1 { 2 3 } exec 4"))
        for over, stack in ((False, "1"), (False, "1 -proc-"), (False, "1"), (False, "1 2"), (False, "1 2 3"), (True, "1 2 3 4")):
            self.assertIs(machine.go(), over)
            self.assertEqual(" ".join(machine.stack()), stack)
        self.assertIsNone(machine.ended())

    def test_what_needs_no_step_comes_at_once(self):
        for text, steps, stack in (
            ("{ 1 } stopped", 3, "1 false"), ("{ stop } stopped", 3, "true"), ("2 { } repeat", 5, ""), ("1 1 2 { } for", 7, "1 2"),
            ("{ { } exec } exec", 4, ""), ("(a) { } forall", 4, "(a)"), ("{ { 1 } stopped } stopped", 5, "1 false false"),
            ("{ { exit } loop } stopped", 6, "false"), ("false { 1 } if", 3, ""), ("stop 1", 1, ""), ("{ } stopped", 2, "false"),
        ):
            with self.subTest(text=text):
                machine = Machine(1, 1)
                machine.start(text)
                for turn in range(steps - 1):
                    self.assertIs(machine.go(), False)
                self.assertIs(machine.go(1), True)
                self.assertEqual(" ".join(machine.stack()), stack)

    def test_a_letter_is_over_with_its_last_step(self):
        machine = Machine(4, 4)
        machine.run("/l dict def l /a [ 2 { 5 setink } ] put l setfont 1 1 moveto")
        machine.start("(aa) show")
        for turn, x in enumerate((1, 1, None, None, 3, None, None)):
            self.assertIs(machine.go(), False)
            self.assertEqual(machine.desk.how["path"], () if x is None else (part((x, 1)),))
        self.assertIs(machine.go(), True)
        self.assertIsNone(machine.run("currentpoint"))
        self.assertEqual(machine.stack(), ["5", "1"])

    def test_beyond_the_end(self):
        machine = Machine(1, 1)
        machine.start("1 2 3")
        self.assertIs(machine.go(2), False)
        self.assertIs(machine.go(20000), True)
        self.assertEqual(machine.stack(), ["1", "2", "3"])
        with self.assertRaises(Idle):
            machine.go()

    def test_nothing_to_do(self):
        machine = Machine(1, 1)
        for text in ("", "  ", "# remark\n"):
            self.assertIsNone(machine.start(text))
            with self.assertRaises(Busy):
                machine.ended()
            self.assertIs(machine.go(), True)
            self.assertIsNone(machine.ended())
        self.assertEqual(machine.counts(), (3, 0))

    def test_the_limit(self):
        machine = Machine(1, 1, steps=3)
        for slices in ((1,) * 9, (3, 1), (2, 2), (20000, 20000)):
            machine.start("1 2 3 4 5")
            over = False
            for many in slices:
                if not over:
                    over = machine.go(many)
            self.assertIs(over, True)
            self.assertEqual(machine.ended(), ("limit", ""))
            self.assertEqual(machine.stack()[-3:], ["1", "2", "3"])

    def test_the_limit_within_fences(self):
        machine = Machine(1, 1, steps=5)
        machine.start("{ { { 1 2 } stopped } stopped } stopped 3")
        self.assertIs(machine.go(5), False)
        self.assertIs(machine.go(1), True)
        self.assertEqual((machine.ended(), machine.stack()), (("limit", ""), ["-proc-"]))

    def test_busy(self):
        machine = Machine(2, 2)
        machine.run("1")
        machine.run("2")
        machine.back()
        machine.start("3 4")
        for many in range(2):
            was = all_of(machine.desk)
            for call in (
                lambda: machine.start("1"), lambda: machine.start(None), lambda: machine.start("}"), lambda: machine.run("1"),
                lambda: machine.run(7), machine.ended, machine.back, machine.forth, machine.twin,
            ):
                with self.assertRaises(Busy):
                    call()
            self.assertEqual(all_of(machine.desk), was)
            self.assertEqual((len(machine), machine.page(), machine.pages(), machine.deeds(), machine.words()), (1 + many, ((0, 0),) * 2, [], [], []))
            self.assertIsNone(machine.value("a"))
            machine.go()
        self.assertEqual(machine.stack(), ["1", "3", "4"])
        self.assertEqual(machine.counts(), (2, 0))

    def test_idle(self):
        machine = Machine(2, 2)
        for turn in range(3):
            for many in (1, 20000) + NO_STEPS:
                with self.assertRaises(Idle):
                    machine.go(many)
            if turn == 0:
                machine.run("stop")
            elif turn == 1:
                machine.start("1")
                machine.go()

    def test_no_steps(self):
        machine = Machine(2, 2)
        machine.start("1 2")
        for many in NO_STEPS:
            with self.assertRaises(NoSteps):
                machine.go(many)
        self.assertEqual(machine.stack(), [])
        self.assertIs(machine.go(2), True)

    def test_faults_end_a_run(self):
        machine = Machine(1, 1)
        machine.start("1 { stop } exec 2")
        self.assertIs(machine.go(3), False)
        self.assertIs(machine.go(1), True)
        self.assertEqual((machine.ended(), machine.stack()), (("stop", "stop"), ["1"]))


class Shows(unittest.TestCase):
    def test_pages_and_deeds(self):
        machine = Machine(4, 3)
        blank = ((0,) * 4,) * 3
        self.assertEqual((machine.page(), machine.pages(), machine.deeds()), (blank, [], []))
        machine.run("5 setink 1 0 2 2 rect fill")
        deed = ("fill", (box(1, 0, 3, 2),), "whole", 5, ())
        inked = ((0, 5, 5, 0), (0, 5, 5, 0), (0, 0, 0, 0))
        self.assertEqual((machine.page(), machine.pages(), machine.deeds()), (inked, [], [deed]))
        machine.run("showpage")
        self.assertEqual((machine.page(), machine.pages(), machine.deeds()), (blank, [inked], []))
        machine.run("erase showpage erase")
        self.assertEqual((machine.page(), machine.pages(), machine.deeds()), (blank, [inked, blank], [("erase",)]))

    def test_told_lists_are_new_ones(self):
        machine = Machine(2, 2)
        machine.run("1 /a 2 def erase showpage erase")
        for tell in (machine.stack, machine.pages, machine.deeds, machine.words):
            was = tell()
            tell().clear()
            tell().append(None)
            self.assertEqual(tell(), was)
            self.assertIsInstance(was, list)
            self.assertEqual(len(was), 1)

    def test_words_and_values(self):
        machine = Machine(2, 2)
        self.assertEqual(machine.words(), [])
        machine.run("/b 1 def /a (x) def dict begin /b { } def /c-1 /d def /a 2 def")
        self.assertEqual(machine.words(), ["a", "b", "c-1"])
        self.assertEqual([machine.value(word) for word in machine.words()], ["2", "-proc-", "/d"])
        machine.run("end currentdict /b undef")
        self.assertEqual((machine.words(), machine.value("a"), machine.value("b")), (["a"], "(x)", None))
        for text in ("", "add", "A", "/a", "a ", "(x)", "[", "]", "nothing", "true", "1", "x" * 40, "\n", "0"):
            self.assertIsNone(machine.value(text))

    def test_values_while_a_run_goes_on(self):
        machine = Machine(2, 2)
        machine.start("/a 1 def erase /a 2 def")
        machine.go(4)
        self.assertEqual((machine.words(), machine.value("a"), machine.deeds()), (["a"], "1", [("erase",)]))


class Backs(unittest.TestCase):
    def test_back_and_forth(self):
        machine = Machine(4, 4)
        told = [shown(machine)[:7]]
        for text in ("1 2", "/a [ 3 ] def", "a 0 4 put a 0 get", "0 0 2 2 rect fill showpage", "stop", "{ } loop", "a 0 5 put erase", "clear"):
            machine.run(text)
            told.append(shown(machine)[:7])
        many = len(told) - 1
        for turn in range(2):
            for at in reversed(range(many)):
                self.assertIsNone(machine.back())
                self.assertEqual((shown(machine)[:7], machine.counts()), (told[at], (at, many - at)))
                self.assertIsNone(machine.ended())
            with self.assertRaises(NoBack):
                machine.back()
            for at in range(1, many + 1):
                self.assertIsNone(machine.forth())
                self.assertEqual((shown(machine)[:7], machine.counts()), (told[at], (at, many - at)))
                self.assertIsNone(machine.ended())
            with self.assertRaises(NoBack):
                machine.forth()

    def test_behind_both_ended_tells_none(self):
        machine = Machine(1, 1)
        machine.run("1")
        self.assertEqual(machine.run("stop"), ("stop", "stop"))
        machine.back()
        self.assertIsNone(machine.ended())
        machine.forth()
        self.assertIsNone(machine.ended())
        machine.run("stop")
        machine.back()
        machine.back()
        self.assertIsNone(machine.ended())

    def test_at_first(self):
        machine = Machine(1, 1)
        self.assertEqual(machine.counts(), (0, 0))
        for call in (machine.back, machine.forth):
            with self.assertRaises(NoBack):
                call()
        self.assertEqual(machine.counts(), (0, 0))

    def test_what_arrays_and_dicts_held(self):
        machine = Machine(1, 1)
        machine.run("/a [ 1 2 ] def /d dict def d /x 5 put save /s exch def")
        machine.run("a 0 9 put d /x undef d /y 1 put /b a def /a 7 def")
        machine.back()
        self.assertEqual((machine.words(), machine.value("a")), (["a", "d", "s"], "-array-"))
        machine.run("a aload pop d { } forall")
        self.assertEqual(machine.stack(), ["1", "2", "/x", "5"])
        machine.back()
        with self.assertRaises(NoBack):
            for turn in range(2):
                machine.forth()
        self.assertEqual(machine.stack(), ["1", "2", "/x", "5"])

    def test_a_restore_taken_back(self):
        machine = Machine(1, 1)
        machine.run("/a [ 1 ] def save")
        machine.run("a 0 2 put dup /s exch def")
        machine.run("restore a 0 get")
        self.assertEqual(machine.stack(), ["1"])
        machine.back()
        machine.run("a 0 get exch")
        self.assertEqual(machine.stack(), ["2", "-save-"])
        self.assertIsNone(machine.run("restore a 0 get"))
        self.assertEqual(machine.stack(), ["2", "1"])
        self.assertEqual(machine.counts(), (4, 0))
        machine.back()
        machine.back()
        machine.back()
        self.assertIsNone(machine.run("a 0 get exch restore a 0 get"))
        self.assertEqual(machine.stack(), ["1", "1"])

    def test_saves_made_in_runs_taken_back(self):
        machine = Machine(1, 1)
        machine.run("/a 1 def save /a 2 def")
        machine.back()
        machine.forth()
        self.assertIsNone(machine.run("restore a"))
        self.assertEqual(machine.stack(), ["1"])

    def test_how_is_drawn(self):
        machine = Machine(4, 4)
        machine.run("3 setink 1 1 moveto gsave")
        machine.run("4 setink newpath grestore 2 2 scale grestore clip")
        machine.back()
        machine.run("5 setink 2 2 lineto grestore currentpoint 0 0 1 1 rect fill")
        self.assertEqual(machine.stack(), ["1", "1"])
        self.assertEqual(machine.deeds(), [("fill", (box(0, 0, 1, 1),), "whole", 3, ())])

    def test_a_run_behind_one_taken_back(self):
        machine = Machine(1, 1)
        for text in ("1", "2", "3"):
            machine.run(text)
        machine.back()
        machine.back()
        self.assertEqual(machine.counts(), (1, 2))
        with self.assertRaises(NoProgram):
            machine.run("}")
        self.assertEqual(machine.counts(), (1, 2))
        machine.run("4")
        self.assertEqual((machine.counts(), machine.stack()), ((2, 0), ["1", "4"]))
        with self.assertRaises(NoBack):
            machine.forth()
        machine.back()
        machine.forth()
        self.assertEqual(machine.stack(), ["1", "4"])

    def test_runs_in_slices_are_taken_back_whole(self):
        machine = Machine(1, 1)
        machine.run("1")
        machine.start("2 3 /a 4 def")
        while not machine.go(2):
            pass
        self.assertEqual((machine.stack(), machine.words()), (["1", "2", "3"], ["a"]))
        machine.back()
        self.assertEqual((machine.stack(), machine.words(), machine.counts()), (["1"], [], (1, 1)))

    def test_by_chance(self):
        chance = random.Random(16)
        for turn in range(40):
            machine = Machine(5, 4, steps=2000)
            machine.run(SETUP)
            told = [(shown(machine)[:7], machine.desk.scene(), list(machine.desk.journal))]
            for run in range(6):
                machine.run(random_program(chance, 5))
                told.append((shown(machine)[:7], machine.desk.scene(), list(machine.desk.journal)))
            at = 6
            for move in range(20):
                if chance.random() < 0.5 and at > 0:
                    machine.back()
                    at -= 1
                elif at < 6:
                    machine.forth()
                    at += 1
                self.assertEqual((shown(machine)[:7], machine.desk.scene(), machine.desk.journal), told[at])
                self.assertEqual(machine.counts(), (at + 1, 6 - at))


class Twins(unittest.TestCase):
    def test_as_this_one(self):
        machine = Machine(4, 3, steps=50)
        machine.run("1 /a [ 2 ] def 0 0 2 2 rect fill showpage erase save")
        machine.run("3")
        machine.run("stop")
        machine.back()
        for turn in range(2):
            twin = machine.twin()
            self.assertIsInstance(twin, Machine)
            self.assertEqual((shown(twin), twin.ended()), (shown(machine), machine.ended()))
            self.assertEqual(twin.run("{ } loop"), ("limit", ""))
            self.assertEqual(twin.run("1 " * 50), None)
            self.assertEqual(machine.counts(), (2 + turn, 1 - turn))
            if turn == 0:
                machine.forth()

    def test_how_the_last_run_ended(self):
        machine = Machine(1, 1)
        machine.run("stop")
        self.assertEqual(machine.twin().ended(), ("stop", "stop"))

    def test_nothing_is_shared(self):
        machine = Machine(4, 3)
        machine.run("/a [ 1 ] def /d dict def 5 a save")
        machine.run("6")
        machine.back()
        was = shown(machine)
        twin = machine.twin()
        twin.run("clear a 0 9 put d /x 1 put /b 2 def 3 setink gsave erase showpage erase dict begin")
        self.assertEqual(shown(machine), was)
        told = shown(twin)
        machine.forth()
        machine.run("pop restore 0 7 put a 0 get d length")
        self.assertEqual(machine.stack(), ["5", "7", "0"])
        self.assertEqual(shown(twin), told)
        twin.back()
        twin.run("restore a 0 get")
        self.assertEqual(twin.stack(), ["5", "-array-", "1"])

    def test_the_saves_of_a_twin(self):
        machine = Machine(1, 1)
        machine.run("/a [ 1 ] def a 0 2 put save")
        machine.run("a 0 3 put")
        twin = machine.twin()
        self.assertIsNone(twin.run("dup save eq exch a 0 4 put restore a 0 get"))
        self.assertEqual(twin.stack(), ["false", "2"])
        self.assertIsNone(machine.run("restore a 0 get"))
        self.assertEqual(machine.stack(), ["2"])

    def test_the_runs_of_a_twin(self):
        machine = Machine(1, 1)
        machine.run("/a [ 1 ] def")
        machine.run("a 0 2 put a 0 get")
        machine.run("a 0 3 put")
        machine.back()
        twin = machine.twin()
        twin.back()
        twin.run("a 0 get")
        self.assertEqual((twin.stack(), twin.counts()), (["1"], (2, 0)))
        machine.run("a 0 get")
        self.assertEqual((machine.stack(), machine.counts()), (["2", "2"], (3, 0)))

    def test_a_machine_and_its_twin_do_the_same(self):
        chance = random.Random(17)
        for turn in range(40):
            machine = Machine(5, 4, steps=2000)
            machine.run(SETUP)
            machine.run(random_program(chance, 6))
            if chance.random() < 0.5:
                machine.back()
            twin = machine.twin()
            other = twin.twin()
            text = random_program(chance, 6)
            self.assertEqual(machine.run(text), twin.run(text))
            self.assertEqual(shown(machine), shown(twin))
            machine.back()
            self.assertEqual(shown(machine)[:7], shown(other)[:7])
            twin.run(random_program(chance, 6))
            machine.forth()
            other.run(text)
            self.assertEqual(shown(machine), shown(other))


class Whole(unittest.TestCase):
    def test_deeds_of_machines_are_deeds(self):
        chance = random.Random(18)
        for turn in range(60):
            machine = Machine(6, 5, steps=2000)
            machine.run(SETUP)
            machine.run(random_program(chance, 12))
            self.assertTrue(all(is_deed(deed) for deed in machine.deeds()))
            self.assertEqual(machine.page(), painted(machine.deeds(), 6, 5))

    def test_refusals_are_page_errors(self):
        for error in (Busy, Idle, NoBack, NoProgram, NoSize, NoSteps):
            self.assertTrue(issubclass(error, PageError))
        self.assertEqual(machines.MOST_STEPS, 20000)


if __name__ == "__main__":
    unittest.main()
