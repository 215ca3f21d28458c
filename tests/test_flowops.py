"""Points 11.1, 11.2, 12.1, 12.2 and 12.3, what 8.2 says of steps, and 0.2 (d) and (e)."""

import itertools
import random
import unittest

from benches import OF_KIND, Bench, all_of, do_on, stack_of
from pageloom.desks import Desk
from samples import MOST


def steps_of(text):
    """With how few steps a program ends otherwise than by its limit."""
    steps = 1
    while do_on(Desk(8, 8), text, steps) == ("limit", ""):
        steps += 1
    return steps


class Branches(Bench):
    def test_exec(self):
        self.check("{ 1 2 } exec", "1 2")
        self.check("{ } exec", "")
        self.check("1 { { 2 } exec 3 } exec 4", "1 2 3 4")
        self.check("{ { 1 } } exec", "-proc-")

    def test_if(self):
        self.check("true { 1 } if 2", "1 2")
        self.check("false { 1 } if 2", "2")

    def test_ifelse(self):
        self.check("true { 1 } { 2 } ifelse 3", "1 3")
        self.check("false { 1 } { 2 } ifelse 3", "2 3")

    def test_a_proc_that_is_named_is_done(self):
        self.check("/two { 1 1 add } def two two mul", "4")
        self.check("/two 2 def two", "2")
        self.check("/a /b def a", "/b")
        self.check("/a [ { 1 } ] def a 0 get", "-proc-")
        self.check("/a { 1 } def /a load", "-proc-")

    def test_procs_that_name_themselves(self):
        self.check("/down { dup 0 gt { dup 1 sub down } if } def 3 down", "3 2 1 0")
        self.check("/fact { dup 1 le { pop 1 } { dup 1 sub fact mul } ifelse } def 20 fact", "2432902008176640000")
        self.check("0 /on { 1 add dup 2000 lt { on } if } def on", "2000")
        self.check("/deep { dup 0 gt { 1 sub deep 1 add } if } def 1000 deep", "1000")

    def test_names_that_stand_for_nothing(self):
        self.check_ends("1 nothing 2", ("undefined", "nothing"), "1")
        self.check_ends("{ 1 no-thing 2 } exec", ("undefined", "no-thing"), "1")
        self.check_ends("1 { nothing } stopped 2", None, "1 true 2")


class Loops(Bench):
    def test_repeat(self):
        self.check("3 { 7 } repeat", "7 7 7")
        self.check("0 { 7 } repeat", "")
        self.check("1 { } repeat", "")
        self.check("2 { 2 { 1 } repeat 5 } repeat", "1 1 5 1 1 5")
        for ahead in ("-1 { }", "1:2 { }", "-1:2 { 1 }"):
            self.check_fault(ahead, "repeat", "range")
        self.check_ends(f"{MOST} {{ stop }} repeat", ("stop", "stop"), "")

    def test_loop(self):
        self.check("0 { 1 add dup 5 eq { exit } if } loop", "5")
        self.check_ends("{ } loop", ("limit", ""), "")

    def test_for(self):
        self.check("1 1 4 { } for", "1 2 3 4")
        self.check("1 2 6 { } for", "1 3 5")
        self.check("4 -1 1 { } for", "4 3 2 1")
        self.check("0 -2 -5 { } for", "0 -2 -4")
        self.check("3 1 3 { } for", "3")
        self.check("3 -1 3 { } for", "3")
        self.check("4 1 3 { } for", "")
        self.check("2 -1 3 { } for", "")
        self.check("0 1:2 3:2 { } for", "0 1:2 1 3:2")
        self.check("1:3 1:3 1 { } for", "1:3 2:3 1")
        self.check("1 -1:2 0.1 { } for", "1 1:2")
        self.check("0 1 1 10 { add } for", "55")
        self.check("1 1 3 { 1 1 3 -1 roll { 9 } for 8 } for", "1 9 8 1 9 2 9 8 1 9 2 9 3 9 8")

    def test_for_by_0(self):
        for ahead in ("1 0 4 { }", "4 0 1 { }", "1 0 1 { }"):
            self.check_fault(ahead, "for", "range")

    def test_for_up_to_numbers_with_too_many_figures(self):
        self.check(f"{MOST - 2} 2 {MOST} {{ }} for", f"{MOST - 2} {MOST}")
        self.check(f"{MOST - 1} 2 {MOST} {{ }} for 5", f"{MOST - 1} 5")
        self.check(f"{-MOST} -1 {-MOST} {{ }} for 5", f"{-MOST} 5")
        self.check(f"0 1:{MOST} 1 {{ exit }} for", "0")
        self.check(f"1:{MOST} 1:{MOST - 1} 1 {{ }} for", f"1:{MOST}")

    def test_forall_of_arrays(self):
        self.check("[ 1 (b) null ] { 5 } forall", "1 5 (b) 5 null 5")
        self.check("[ ] { 5 } forall", "")
        self.check("[ { 1 } ] { } forall", "-proc-")

    def test_forall_of_dicts(self):
        self.check("dict dup /b 1 put dup /a 2 put dup /c (x) put dup /b-1 3 put { } forall", "/a 2 /b 1 /b-1 3 /c (x)")
        self.check("dict { } forall", "")
        self.check("/y 1 def /x 2 def currentdict { } forall", "/x 2 /y 1")

    def test_forall_of_texts(self):
        self.check("(a b) { 1 } forall", "(a) 1 ( ) 1 (b) 1")
        self.check("() { 1 } forall", "")

    def test_forall_as_it_was_when_it_began(self):
        self.check("/a [ 1 2 3 ] def a { pop a 2 9 put a 1 8 put a 0 7 put } forall a aload pop", "7 8 9")
        self.check("/a [ 1 2 3 ] def a { a 2 9 put } forall", "1 2 3")
        self.check("/d dict def d /a 1 put d /b 2 put d { d /b 7 put d /c 8 put d /a undef } forall d length", "/a 1 /b 2 2")

    def test_forall_of_others(self):
        for kind, text in OF_KIND.items():
            if kind not in ("array", "dict", "text"):
                self.check_fault(f"{text} {{ }}", "forall", "kind")

    def test_exit(self):
        self.check("3 { 1 exit 2 } repeat 5", "1 5")
        self.check("{ 1 exit } loop 5", "1 5")
        self.check("1 1 3 { exit } for 5", "1 5")
        self.check("[ 7 8 ] { exit } forall 5", "7 5")
        self.check("2 { 3 { 1 exit } repeat 2 } repeat", "1 2 1 2")
        self.check("/out { exit } def { 1 { 2 out 3 } exec 4 } loop 5", "1 2 5")
        self.check("{ { exit } loop 1 exit } loop 2", "1 2")
        self.check("{ { { exit } loop 4 } stopped exit } loop", "4 false")

    def test_exit_without_a_loop(self):
        self.check_fault("", "exit", "exit")
        self.check_fault("1 { } repeat", "exit", "exit")
        self.check_ends("1 { exit 2 } exec", ("exit", "exit"), "1")
        self.check("{ 1 { exit } stopped exit } loop", "1 true")
        self.check("2 { { 5 exit } stopped } repeat", "5 true 5 true")


class Fences(Bench):
    def test_without_a_fault(self):
        self.check("{ 1 2 } stopped", "1 2 false")
        self.check("{ } stopped", "false")
        self.check("{ { 1 } stopped } stopped", "1 false false")

    def test_faults(self):
        self.check("{ 1 stop 2 } stopped 3", "1 true 3")
        self.check("{ 1 2 (a) add 3 } stopped", "1 2 (a) true")
        self.check("{ 1 0 div } stopped { 5 } if", "1 0 5")
        self.check("{ { 1 stop } stopped stop } stopped", "1 true true")
        self.check("{ { 1 stop } stopped 2 } stopped", "1 true 2 false")
        self.check("1 2 { pop pop pop } stopped", "true")

    def test_all_within_is_over(self):
        self.check("{ 3 { 1 stop } repeat } stopped 2", "1 true 2")
        self.check("{ { { { stop } loop } exec } loop } stopped 2", "true 2")
        self.check("3 { { stop } stopped } repeat", "true true true")

    def test_stop(self):
        self.check_fault("1", "stop", "stop")
        self.check_ends("1 { { stop } exec } loop", ("stop", "stop"), "1")

    def test_what_was_done_stays(self):
        self.check("{ /a 5 def [ 1 ] 0 (x) add } stopped pop pop pop pop a", "5")


class Steps(Bench):
    def test_each_kind_of_step(self):
        for text, steps in (
            ("1", 1), ("1 2 add", 3), ("{ 1 2 }", 1), ("{ 1 2 } exec", 4), ("true { 1 } if", 4), ("false { 1 } if", 3),
            ("false { 1 } { 2 3 } ifelse", 6), ("0 { } repeat", 3), ("4 { } repeat", 7), ("3 { 1 } repeat", 9),
            ("1 1 3 { } for", 8), ("1 1 3 { pop } for", 11), ("[ 1 2 ] { } forall", 8), ("(abc) { } forall", 6),
            ("{ 1 } stopped", 3), ("{ stop } stopped", 3), ("{ exit } loop", 4), ("/a { 1 } def a", 5), ("/a 1 def a", 4),
            ("nothing", 1), ("1 pop pop", 3), ("dict dup /a 1 put { } forall", 8),
        ):
            with self.subTest(text=text):
                self.assertEqual(steps_of(text), steps)

    def test_no_fence_holds_the_limit(self):
        for text, steps in (("{ 1 2 3 } stopped 4", 4), ("{ { { } loop } stopped } stopped", 9), ("{ stop } stopped 1", 3)):
            with self.subTest(text=text):
                self.assertEqual(do_on(Desk(8, 8), text, steps), ("limit", ""))

    def test_what_is_done_by_then_stays(self):
        desk = Desk(8, 8)
        self.assertEqual(do_on(desk, "1 2 add { 4 5 6 } stopped 7", 6), ("limit", ""))
        self.assertEqual(stack_of(desk), "3 4")
        self.assertIsNone(do_on(desk, "8", 1))
        self.assertEqual(stack_of(desk), "3 4 8")


class Arrays(Bench):
    def test_array(self):
        self.check("0 array length", "0")
        self.check("3 array aload pop", "null null null")
        self.check("100 array length", "100")
        for ahead in ("101", "-1", "1:2", str(MOST)):
            self.check_fault(ahead, "array", "range")

    def test_brackets(self):
        self.check("[ ] length", "0")
        self.check("[ 1 (b) { 3 } ] aload pop", "1 (b) -proc-")
        self.check("5 [ 1 [ 2 3 ] ] 1 get aload pop", "5 2 3")
        self.check("mark 1 ]", "-array-")
        self.check("[ 1 2 add ] 0 get", "3")
        self.check("[ 100 { 1 } repeat ] length", "100")
        for ahead in ("", "1 2", "[ ]"):
            self.check_fault(ahead, "]", "mark")
        self.check_fault("[ 101 { 1 } repeat", "]", "range")

    def test_length(self):
        self.check("(abc) length", "3")
        self.check("() length", "0")
        self.check("[ 1 2 ] length", "2")
        self.check("dict length", "0")
        self.check("dict dup /a 1 put dup /a 2 put dup /b 1 put length", "2")
        for kind, text in OF_KIND.items():
            if kind not in ("text", "array", "dict"):
                self.check_fault(text, "length", "kind")

    def test_get(self):
        self.check("[ 5 6 7 ] 0 get", "5")
        self.check("[ 5 6 7 ] 2 get", "7")
        self.check("dict dup /a (x) put /a get", "(x)")
        for ahead in ("[ 5 6 7 ] 3", "[ 5 ] -1", "[ 5 6 ] 1:2", "[ ] 0", f"[ 1 ] {MOST}"):
            self.check_fault(ahead, "get", "range")
        for ahead in ("dict /a", "currentdict /add", "dict dup /a 1 put dup /a undef /a"):
            self.check_fault(ahead, "get", "undefined")

    def test_put(self):
        self.check("/a [ 5 6 7 ] def a 1 (x) put a aload pop", "5 (x) 7")
        self.check("/a 1 array def a 0 a put a 0 get 0 get a eq", "true")
        self.check("/d dict def d /d d put d /d get d eq", "true")
        for text in OF_KIND.values():
            self.check(f"1 array dup 0 {text} put length", "1")
            self.check(f"dict dup /a {text} put length", "1")
        for ahead in ("[ 5 6 ] 2 1", "[ 5 ] -1 1", "[ 5 6 ] 1:2 1", "[ ] 0 1"):
            self.check_fault(ahead, "put", "range")
        for name in ("add", "show", "if", "true", "put", "save"):
            self.check_fault(f"dict /{name} 1", "put", "fixed")

    def test_places_of_other_kinds(self):
        for one, other in itertools.product(OF_KIND, repeat=2):
            if (one, other) not in (("array", "number"), ("dict", "name")):
                self.check_fault(f"{OF_KIND[one]} {OF_KIND[other]}", "get", "kind")
                self.check_fault(f"{OF_KIND[one]} {OF_KIND[other]} 1", "put", "kind")

    def test_aload(self):
        self.check("[ 5 6 ] aload length", "5 6 2")
        self.check("[ ] aload length", "0")
        self.check("[ 5 ] dup aload 3 1 roll pop eq", "true")
        self.check("899 { 1 } repeat 100 array aload count", "1 " * 899 + "null " * 100 + "-array- 1000")
        self.check_fault("900 { 1 } repeat 100 array", "aload", "range")
        self.check("999 { 1 } repeat [ ] aload count", "1 " * 999 + "-array- 1000")
        self.check_fault("1000 { 1 } repeat [ ]", "aload", "range")

    def test_astore(self):
        self.check("5 6 7 2 array astore aload pop", "5 6 7")
        self.check("5 6 7 2 array astore length", "5 2")
        self.check("5 0 array astore length", "5 0")
        self.check("/a 2 array def 5 6 a astore a eq a aload pop", "true 5 6")
        self.check("/a 2 array def 5 6 a astore pop 7 8 a astore pop a aload pop", "7 8")
        self.check_fault("1 2 array", "astore", "underflow")
        self.check_fault("1 array", "astore", "underflow")

    def test_arrays_stand_at_several_places(self):
        self.check("/a [ 1 2 ] def /b a def [ a b ] dup 0 get 0 9 put 1 get 0 get", "9")
        self.check("/a [ 1 ] def /b [ a ] def a 0 5 put b 0 get 0 get", "5")
        self.check("{ [ 1 ] } dup exec exch exec eq", "false")


class Dicts(Bench):
    def test_def(self):
        self.check("/a 1 def a /a (x) def a", "1 (x)")
        self.check("/a 1 def /b 2 def a b", "1 2")
        for name in ("add", "def", "true", "null", "for", "exec", "itransform"):
            self.check_fault(f"/{name} 1", "def", "fixed")
        self.check("/ad 1 def ad", "1")

    def test_dicts_in_force(self):
        self.check("/a 1 def dict begin /a 2 def a end a", "2 1")
        self.check("/a 1 def /b 5 def dict begin /a 2 def dict begin /a 3 def a b end a b end a b", "3 5 2 5 1 5")
        self.check("/d dict def d begin /a 7 def end d /a get", "7")
        self.check("/d dict def d begin /a 7 def d begin /a 8 def a end a end d length", "8 8 1")
        self.check("dict begin currentdict dup /q 4 put end /q get", "4")
        self.check_fault("", "end", "ends")
        self.check_fault("dict begin end", "end", "ends")
        self.check_fault("currentdict begin end", "end", "ends")

    def test_load(self):
        self.check("/a { 1 } def /a load", "-proc-")
        self.check("/a 1 def dict begin /a 2 def /a load end /a load", "2 1")
        for ahead in ("/a", "/add", "dict begin /a 1 def end /a"):
            self.check_fault(ahead, "load", "undefined")

    def test_known(self):
        self.check("/d dict def d /a null put d /a known d /b known d /add known", "true false false")
        self.check("/a 1 def dict /a known", "false")

    def test_undef(self):
        self.check("/a 1 def currentdict /a undef currentdict /a known", "false")
        self.check("dict dup /a undef length", "0")
        self.check("dict dup /add undef length", "0")
        self.check("/a 1 def dict begin /a 2 def currentdict /a undef a", "1")
        self.check_ends("/a 1 def currentdict /a undef a", ("undefined", "a"), "")

    def test_currentdict(self):
        self.check("currentdict currentdict eq", "true")
        self.check("/d dict def d begin currentdict d eq end currentdict d eq", "true false")


class Saves(Bench):
    def test_what_arrays_and_dicts_held(self):
        self.check("/a [ 1 2 ] def save a 0 9 put a 1 8 put restore a aload pop", "1 2")
        self.check("/a 1 def save /a 2 def restore a", "1")
        self.check("save /a 2 def restore currentdict /a known", "false")
        self.check("/a 1 def save currentdict /a undef restore a", "1")
        self.check("/d dict def d /x 1 put save d begin /x 2 def /y 3 def end restore d length d /x get", "1 1")
        self.check("/a 1 array def 5 a astore pop save 6 a astore pop restore a 0 get", "5")
        self.check("/a [ 1 ] def save a 0 2 put a 0 3 put a 0 1 put restore a 0 get", "1")

    def test_what_is_newer_stays_as_it_is(self):
        self.check("save [ 1 2 ] dup 0 9 put exch restore aload pop", "9 2")
        self.check("save dict dup /a 5 put exch restore /a get", "5")
        self.check("/a [ 1 ] def save [ 3 ] a 0 2 index put dup 0 4 put exch restore 0 get a 0 get", "4 1")

    def test_what_stays(self):
        self.check("1 2 save 3 exch restore", "1 2 3")
        self.check("save dict begin currentdict exch restore currentdict eq end", "true")
        self.check("/d dict def d begin save end restore /a 1 def currentdict /a known d /a known", "true false")
        desk = self.desk_behind("save 0 0 2 2 rect fill showpage erase restore")
        self.assertEqual((len(desk.shown), len(desk.inkings)), (1, 1))

    def test_how_is_drawn_and_what_was_kept(self):
        for text in (
            "3 4 translate", "2 setink", "5 setwidth", "1 2 moveto 3 4 lineto", "newpath", "0 0 2 2 rect clip", "dict setfont", "gsave",
            "grestore", "gsave 2 setink gsave 3 setink", "grestore grestore", "grestore 7 setink gsave", "initclip newpath",
        ):
            with self.subTest(text=text):
                desk = self.desk_behind("9 setink 1 1 moveto gsave 4 setink 5 5 lineto gsave clip 6 setink")
                how, kept = desk.how, desk.kept
                self.assertIsNone(do_on(desk, f"save {text}"))
                self.assertNotEqual((how, kept), (desk.how, desk.kept))
                self.assertIsNone(do_on(desk, "restore"))
                self.assertEqual((how, kept), (desk.how, desk.kept))

    def test_saves_within_saves(self):
        self.check("/a 1 def save /a 2 def save /a 3 def restore a exch restore a", "2 1")
        self.check("/a 1 def save /a 2 def save pop /a 3 def restore a", "1")
        self.check("/a 1 def save /a 2 def save /a 3 def save /a 4 def pop exch pop restore a", "2")
        self.check("/a 1 def save /a 2 def restore save /a 3 def restore a", "1")

    def test_used_saves(self):
        self.check_fault("save dup restore", "restore", "save")
        self.check_fault("save save exch restore", "restore", "save")
        self.check_fault("save save save pop exch restore", "restore", "save")
        self.check_fault("save dup restore save pop", "restore", "save")
        self.check_fault("[ save ] dup 0 get restore 0 get", "restore", "save")
        self.check("save save restore restore", "")
        self.check("save save pop restore", "")
        self.check("save dup dup eq { restore } if", "")

    def test_saves_by_chance(self):
        chance = random.Random(12)
        for turn in range(150):
            desk = self.desk_behind("/a [ 1 2 3 ] def /b [ a 5 ] def /d dict def d /x a put")
            told = []
            for deed in range(30):
                number = chance.randrange(100)
                choice = chance.choice(("a", "a", "b", "d", "u", "n", "w", "g", "save", "save", "restore"))
                if choice == "save":
                    was = (held(desk), desk.how, desk.kept)
                    self.assertIsNone(do_on(desk, "save"))
                    told.append((was, desk.operands.pop()))
                elif choice == "restore":
                    if told:
                        at = chance.randrange(len(told))
                        was, operand = told[at]
                        gone = told[at:]
                        del told[at:]
                        desk.operands.append(operand)
                        self.assertIsNone(do_on(desk, "restore"))
                        self.assertEqual((was_there(desk, was[0]), desk.how, desk.kept), was)
                        for then, used in gone:
                            desk.operands.append(used)
                            self.assertEqual(do_on(desk, "restore"), ("save", "restore"))
                            desk.operands.pop()
                else:
                    self.assertIsNone(do_on(desk, {
                        "a": f"/a load {number % 3} {number} put", "b": f"/b load {number % 2} /a load put", "d": f"/d load /x {number} put",
                        "u": "/d load /x undef", "n": f"/c [ {number} ] def", "w": f"{number} setwidth gsave", "g": f"{number % 16} setink grestore",
                    }[choice]))


def held(desk):
    """All that arrays and dicts hold."""
    return {number: dict(places) for number, places in desk.held.items()}


def was_there(desk, then):
    """What those arrays and dicts hold now that were there then."""
    return {number: dict(desk.held[number]) for number in then}


class Whole(Bench):
    def test_a_fault_within_a_fence_changes_nothing(self):
        desk = self.desk_behind("/a [ 1 ] def 1 2 moveto (x) save a 0")
        was = all_of(desk)
        for text in ("{ put } stopped pop", "{ nothing } stopped pop", "{ 7 get } stopped pop pop", "{ restore } stopped pop"):
            self.assertIsNone(do_on(desk, text))
            self.assertEqual(all_of(desk), was)


if __name__ == "__main__":
    unittest.main()
