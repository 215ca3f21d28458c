"""Points 2.1, 2.2 and 2.3, point 0.2 (a), and what 0.3 says of them."""

import copy
import itertools
import random
import re
import unittest

from pageloom.errors import NoProgram
from pageloom.exact import read_number
from pageloom.reading import count_items, is_item, program_text, read_program

ONE = ("number", (1, 1))
DUP = ("do", "dup")
MORE = 10 ** 40

ITEMS = (
    ONE, ("number", (-1, 2)), ("number", (0, 1)), ("number", (MORE - 1, 1)), ("number", (1, MORE - 1)),
    DUP, ("do", "["), ("do", "]"), ("do", "a"), ("do", "a-1"), ("do", "a-"), ("do", "abcdefghijkl"), ("do", "z0123456789-"),
    ("do", "true"), ("do", "null"), ("name", "a"), ("name", "x-y"), ("name", "abcdefghijkl"), ("name", "dup"),
    ("text", ""), ("text", " "), ("text", "a b # c"), ("text", "{}[]/"), ("text", "\t\r\u00e9\u2028"), ("text", "12"),
    ("proc", ()), ("proc", (DUP,)), ("proc", (DUP, ("do", "mul"))), ("proc", (("proc", ()), ("proc", (ONE, ("text", "")))))
)
NO_ITEMS = (
    0, 1, True, False, None, "", "dup", "do", (), [], (1,), (1, 2), ("do",), ("dup",), ("do", "dup", "dup"),
    ["do", "dup"], ["number", (1, 1)], [("do", "dup")], (("do", "dup"),), ("do", ("dup",)), ("do", ["dup"]), (("do",), "dup"),
    (["do"], "dup"), (None, None), (True, True), ("Do", "dup"), ("", "dup"), ("word", "dup"), ("operator", "dup"),
    ("number", 1), ("number", "1"), ("number", None), ("number", True), ("number", (1,)), ("number", [1, 1]),
    ("number", (2, 2)), ("number", (2, 4)), ("number", (1, 0)), ("number", (1, -1)), ("number", (True, 1)),
    ("number", (1, True)), ("number", (MORE, 1)), ("number", (1, MORE)), ("number", ((1, 1), 1)),
    ("do", ""), ("do", None), ("do", 1), ("do", True), ("do", "abcdefghijklm"), ("do", "1"), ("do", "1a"), ("do", "-a"),
    ("do", "-"), ("do", "A"), ("do", "aB"), ("do", "a b"), ("do", "a_b"), ("do", "a.b"), ("do", "a:b"), ("do", "/a"),
    ("do", "a\n"), ("do", "\u00e9"), ("do", "a\u00e9"), ("do", "a\u0661"), ("do", "[]"), ("do", "[["), ("do", "{"),
    ("do", "}"), ("do", "("), ("do", "#"),
    ("name", ""), ("name", "["), ("name", "]"), ("name", "/a"), ("name", "1"), ("name", "abcdefghijklm"), ("name", "A"),
    ("name", "-"), ("name", None), ("name", ("a",)), ("name", True), ("name", "a b"),
    ("text", "("), ("text", ")"), ("text", "a(b"), ("text", "a)b"), ("text", "\n"), ("text", "a\nb"), ("text", None),
    ("text", 1), ("text", True), ("text", ("a",)), ("text", ["a"]),
    ("proc", []), ("proc", None), ("proc", ""), ("proc", "dup"), ("proc", True), ("proc", [DUP]), ("proc", DUP),
    ("proc", (1,)), ("proc", (None,)), ("proc", ("dup",)), ("proc", (DUP, ["do", "dup"])), ("proc", (DUP, True)),
    ("proc", (("proc", (("proc", (("do", "A"),)),)),)), ("proc", (("number", (True, 1)), DUP)),
    ("proc", (("proc", [DUP]),)),
)
NO_TEXTS = (0, 1, True, False, None, (), [], ["dup"], ("dup",), [DUP], DUP, [[[[[["dup"]]]]]])


def nested(many):
    """An item of so many procs within one another."""
    item = ("proc", ())
    for times in range(many - 1):
        item = ("proc", (item,))
    return item


class Reading(unittest.TestCase):
    def reads(self, text, *items):
        told = read_program(text)
        self.assertIsInstance(told, list)
        self.assertEqual(told, list(items), text)

    def refuses(self, text, row, column):
        with self.assertRaises(NoProgram, msg=text) as caught:
            read_program(text)
        self.assertEqual((caught.exception.row, caught.exception.column), (row, column), text)


class ReadProgram(Reading):
    def test_nothing(self):
        for text in ("", " ", "\n", "  \n \n", "#", "# remark", "#\n#", " # ( { } /\n"):
            self.reads(text)

    def test_numbers(self):
        self.reads("3", ("number", (3, 1)))
        self.reads("-1:2 06 4:8 -0.25", ("number", (-1, 2)), ("number", (6, 1)), ("number", (1, 2)), ("number", (-1, 4)))
        self.reads("9" * 40, ("number", (MORE - 1, 1)))

    def test_names_to_be_done(self):
        self.reads("dup", DUP)
        self.reads("a a1 a-b z- abcdefghijkl", ("do", "a"), ("do", "a1"), ("do", "a-b"), ("do", "z-"), ("do", "abcdefghijkl"))

    def test_names(self):
        self.reads("/a /dup /a1-", ("name", "a"), ("name", "dup"), ("name", "a1-"))
        self.reads("/abcdefghijkl", ("name", "abcdefghijkl"))

    def test_texts(self):
        self.reads("()", ("text", ""))
        self.reads("(a b # c)", ("text", "a b # c"))
        self.reads("( {/[]}} )", ("text", " {/[]}} "))
        self.reads("(\t\r\u00e9\u2028\x0b)", ("text", "\t\r\u00e9\u2028\x0b"))

    def test_procs(self):
        self.reads("{ dup mul }", ("proc", (DUP, ("do", "mul"))))
        self.reads("{ }", ("proc", ()))
        self.reads("{\n}", ("proc", ()))
        self.reads("{ # }\n }", ("proc", ()))
        self.reads("{(})}", ("proc", (("text", "}"),)))
        self.reads("{{}1{dup{}}}{}", ("proc", (("proc", ()), ONE, ("proc", (DUP, ("proc", ()))))), ("proc", ()))

    def test_signs_that_need_no_parting(self):
        self.reads("[1]", ("do", "["), ONE, ("do", "]"))
        self.reads("[[]]", ("do", "["), ("do", "["), ("do", "]"), ("do", "]"))
        self.reads("dup[dup]dup", DUP, ("do", "["), DUP, ("do", "]"), DUP)
        self.reads("dup(a)dup", DUP, ("text", "a"), DUP)
        self.reads("1(a)(b)1", ONE, ("text", "a"), ("text", "b"), ONE)
        self.reads("dup{dup}dup", DUP, ("proc", (DUP,)), DUP)
        self.reads("1/a/b(c)/d{/e}/f[/g]/h", ONE, ("name", "a"), ("name", "b"), ("text", "c"), ("name", "d"),
                   ("proc", (("name", "e"),)), ("name", "f"), ("do", "["), ("name", "g"), ("do", "]"), ("name", "h"))
        self.reads("/a[/b(c)/d{}", ("name", "a"), ("do", "["), ("name", "b"), ("text", "c"), ("name", "d"), ("proc", ()))

    def test_blanks_and_line_feeds_part(self):
        self.reads("dup dup", DUP, DUP)
        self.reads("dup\ndup", DUP, DUP)
        self.reads("\n\n dup  \n  dup\n\n", DUP, DUP)

    def test_remarks(self):
        self.reads("dup # mul ( { } / A\ndup", DUP, DUP)
        self.reads("dup#mul\ndup", DUP, DUP)
        self.reads("dup # mul # mul", DUP)
        self.reads("/a#b\n(c)#d\n{#e}\n}", ("name", "a"), ("text", "c"), ("proc", ()))
        self.reads("# \u00e9\t\r dup\n dup", DUP)

    def test_a_new_list_each_time(self):
        first = read_program("dup")
        first.append(1)
        self.reads("dup", DUP)

    def test_depth(self):
        self.reads("{" * 50 + "}" * 50, nested(50))
        self.reads("{" * 49 + "{}{}" + "}" * 49, *read_program("{" * 49 + " { } { } " + "}" * 49))
        self.reads("{}" * 51, *[nested(1)] * 51)


class Refusals(Reading):
    def test_what_is_no_text(self):
        for thing in NO_TEXTS:
            self.refuses(thing, 0, 0)

    def test_a_sign_that_begins_no_item(self):
        for sign in ")AZ*+,;<=>?@\\^_`|~!\"$%&'\t\r\x00\x0b\x0c\u00a0\u00e9\u0661\u2028":
            self.refuses(sign, 1, 1)
            self.refuses("dup " + sign, 1, 5)
            self.refuses("dup\n\n  " + sign + " dup", 3, 3)
            self.refuses("dup" + sign, 1, 4)
            self.refuses("{ [ " + sign, 1, 5)

    def test_a_word_that_is_neither(self):
        for word in ("1a", "-", "-a", ":", ".", "1:0", "1.", ".5", "a.b", "a:b", "1:2:3", "1-2", "abcdefghijklm", "--1",
                     "1" + "0" * 40, "9" * 40 + ".5", "0." + "0" * 39 + "1", "1:1" + "0" * 40, "a" * 5000, "1" * 5000):
            self.refuses(word, 1, 1)
            self.refuses("1 " + word + " 1", 1, 3)
            self.refuses("[" + word + "]", 1, 2)
            self.refuses("# remark\n(text)\n  " + word, 3, 3)

    def test_a_slash_without_a_name(self):
        for text in ("/", "/ a", "/\na", "/1", "/-a", "/-", "/a.b", "/a:b", "/abcdefghijklm", "/[", "/]", "/(a)", "/{a}", "/}",
                     "//a", "/#a", "/A", "/\u00e9", "/1:2"):
            self.refuses(text, 1, 1)
            self.refuses("dup" + text, 1, 4)
            self.refuses("dup\n " + text, 2, 2)

    def test_a_text_not_closed_on_its_line(self):
        for text in ("(", "(a", "(a # b", "(a\n)", "(\n)", "(a\n b)", "(a(b)", "((a))", "(a()"):
            self.refuses(text, 1, 1)
            self.refuses("dup " + text, 1, 5)
            self.refuses("(a)" + text, 1, 4)
            self.refuses("dup\n\n{ " + text, 3, 3)

    def test_a_brace_that_closes_none(self):
        self.refuses("}", 1, 1)
        self.refuses("{}}", 1, 3)
        self.refuses("{ dup }\n dup }", 2, 6)
        self.refuses("} {", 1, 1)

    def test_a_brace_within_too_many(self):
        self.refuses("{" * 51 + "}" * 51, 1, 51)
        self.refuses("{" * 51, 1, 51)
        self.refuses("{" * 3000 + "}" * 3000, 1, 51)
        self.refuses("{\n" * 51 + "}" * 51, 51, 1)
        self.refuses("{" * 50 + "}" + " {{", 1, 54)
        self.refuses("{" * 50 + " dup { A", 1, 56)

    def test_braces_never_closed(self):
        self.refuses("{", 1, 1)
        self.refuses("dup { dup", 1, 5)
        self.refuses("{ {", 1, 3)
        self.refuses("{ { }", 1, 1)
        self.refuses("{ {} { {} {}", 1, 6)
        self.refuses("{ dup\n  { dup\n", 2, 3)
        self.refuses("{ # }", 1, 1)
        self.refuses("{ (})", 1, 1)
        self.refuses("{" * 50, 1, 50)

    def test_the_first_one_met(self):
        self.refuses("A 1a / ( }", 1, 1)
        self.refuses("1a A", 1, 1)
        self.refuses("{ A", 1, 3)
        self.refuses("{ {\n / 1a", 2, 2)
        self.refuses("} (", 1, 1)
        self.refuses("( }", 1, 1)
        self.refuses("dup\n( {\nA", 2, 1)
        self.refuses("{ {} 1a }}", 1, 6)
        self.refuses("{" * 51 + "A", 1, 51)
        self.refuses("{" * 49 + "A{{", 1, 50)

    def test_capital_letters_are_in_no_word(self):
        self.refuses("aB", 1, 2)
        self.refuses("/aB", 1, 3)
        self.refuses("12B", 1, 3)


class IsItem(unittest.TestCase):
    def test_items(self):
        for thing in ITEMS:
            with self.subTest(thing):
                self.assertIs(is_item(thing), True)

    def test_all_else(self):
        for thing in NO_ITEMS:
            with self.subTest(thing):
                self.assertIs(is_item(thing), False)

    def test_each_sign(self):
        small = "abcdefghijklmnopqrstuvwxyz"
        for sign in map(chr, range(400)):
            with self.subTest(sign):
                in_names = sign in small + "0123456789-"
                self.assertIs(is_item(("do", sign)), sign in small + "[]")
                self.assertIs(is_item(("name", sign)), sign in small)
                self.assertIs(is_item(("do", "a" + sign)), in_names)
                self.assertIs(is_item(("name", "a" + sign + "a")), in_names)
                self.assertIs(is_item(("text", "a" + sign)), sign not in "()\n")

    def test_depth(self):
        for many in (1, 49, 50, 51, 60, 2000):
            item = nested(many)
            self.assertIs(is_item(item), True)
        wrong = ("do", "A")
        for times in range(49):
            wrong = ("proc", (wrong,))
        self.assertIs(is_item(wrong), False)


class ProgramText(unittest.TestCase):
    def test_texts(self):
        for items, text in (
            ([], ""), ([ONE], "1"), ([("number", (-1, 2))], "-1:2"), ([DUP, DUP], "dup dup"), ([("name", "a")], "/a"),
            ([("text", "")], "()"), ([("text", "a  # b")], "(a  # b)"), ([("do", "["), ONE, ("do", "]")], "[ 1 ]"),
            ([("proc", (DUP, ("do", "mul")))], "{ dup mul }"), ([("proc", ())], "{ }"),
            ([("proc", ()), ("proc", (("proc", ()), ONE))], "{ } { { } 1 }"),
            ([("name", "sq"), ("proc", (DUP, ("do", "mul"))), ("do", "def")], "/sq { dup mul } def"),
        ):
            with self.subTest(text):
                self.assertEqual(program_text(items), text)

    def refuses(self, things):
        with self.assertRaises(NoProgram) as caught:
            program_text(things)
        self.assertEqual((caught.exception.row, caught.exception.column), (0, 0))

    def test_what_is_no_list_of_items(self):
        for thing in NO_ITEMS:
            self.refuses([thing])
            self.refuses([DUP, thing])
            self.refuses([thing, DUP])
        for thing in (0, 1, True, None, "", "dup", (), (DUP,), DUP, ONE, ("proc", ()), ["dup"], [[DUP]], [[]], b""):
            self.refuses(thing)

    def test_what_is_handed_in_stays(self):
        items = list(ITEMS)
        kept = copy.deepcopy(items)
        program_text(items)
        count_items(items)
        self.assertEqual(items, kept)

    def test_depth(self):
        for many in (1, 49, 50, 51, 60, 2000):
            self.assertEqual(program_text([nested(many)]), "{ " * many + " ".join("}" * many))


class CountItems(unittest.TestCase):
    def test_counts(self):
        for text, many in (("", 0), ("dup", 1), ("dup dup", 2), ("{ }", 1), ("{ dup mul }", 3), ("{{}{}}", 3),
                           ("1 { dup { 1 2 } [ ] } (a b) /c", 10), ("# 1 2\n3", 1)):
            with self.subTest(text):
                self.assertEqual(count_items(read_program(text)), many)

    def test_depth(self):
        for many in (49, 50, 51, 60, 2000):
            self.assertEqual(count_items([nested(many)]), many)


def told_by_patterns(text):
    """What the points say of a text without procs, said once more: items, or the place of the refusal."""
    items = []
    at = 0
    while at < len(text):
        parted = re.compile(r"[ \n]+|#[^\n]*").match(text, at)
        found = re.compile(r"/([a-z][a-z0-9-]{0,11})(?![a-z0-9:.-])|\(([^()\n]*)\)|([a-z0-9:.-]+)|([][{}])").match(text, at)
        if parted:
            at = parted.end()
        elif not found:
            return at
        else:
            name, inner, word, lone = found.groups()
            if word is not None and read_number(word) is None and not re.fullmatch("[a-z][a-z0-9-]{0,11}", word):
                return at
            if name is not None:
                item = ("name", name)
            elif inner is not None:
                item = ("text", inner)
            elif word is not None:
                value = read_number(word)
                item = ("do", word) if value is None else ("number", value)
            else:
                item = ("do", lone)
            items.append((item, at))
            at = found.end()
    return items


def with_procs(found):
    """These items with procs made of those within braces, or the place of the refusal."""
    if isinstance(found, int):
        return found
    rows, opened = [[]], []
    for item, at in found:
        if item == ("do", "{"):
            opened.append(at)
            rows.append([])
        elif item == ("do", "}"):
            if not opened:
                return at
            opened.pop()
            inner = rows.pop()
            rows[-1].append(("proc", tuple(inner)))
        else:
            rows[-1].append(item)
    return opened[-1] if opened else rows[0]


def told(text):
    """With procs, too: a brace that closes none may come ahead of what else can not be read."""
    found = told_by_patterns(text)
    if isinstance(found, int):
        ahead = with_procs(told_by_patterns(text[:found]))
        closes_none = isinstance(ahead, int) and text[ahead] == "}"
        return ahead if closes_none else found
    return with_procs(found)


def place(text, at):
    return text.count("\n", 0, at) + 1, len(text[:at].split("\n")[-1]) + 1


class Together(Reading):
    def check(self, text):
        expected = told(text)
        if isinstance(expected, int):
            self.refuses(text, *place(text, expected))
            return
        self.assertEqual(read_program(text), expected, text)
        writing = program_text(expected)
        self.assertEqual(read_program(writing), expected, text)
        self.assertEqual(program_text(read_program(writing)), writing)

    def test_all_short_texts(self):
        for many in range(5):
            for signs in itertools.product("a0-:./()[{}# \n", repeat=many):
                self.check("".join(signs))

    def test_each_sign(self):
        for sign in map(chr, range(400)):
            for around in ("X", "aXa", "1X1", "/X", "/aXa", "(X)", "(a)X", "{X}", "[X]", "#X\na", "a\n X"):
                self.check(around.replace("X", sign))

    def test_longer_texts(self):
        chance = random.Random(20)
        pieces = ("dup", "a", "1", "-2:4", "0.5", "/", "/x", "(", ")", "(t #)", "{", "}", "{", "}", "[", "]", " ", " ", "\n",
                  "#", "B", "a-", ".", "abcdefghijkl")
        for times in range(20000):
            self.check("".join(chance.choice(pieces) for piece in range(chance.randrange(1, 14))))

    def random_items(self, chance, depth):
        plain = [item for item in ITEMS if item[0] != "proc"]
        items = []
        for times in range(chance.randrange(4)):
            if depth and chance.random() < 0.4:
                items.append(("proc", tuple(self.random_items(chance, depth - 1))))
            else:
                items.append(chance.choice(plain))
        return items

    def test_each_program_reads_back_as_it_was(self):
        chance = random.Random(2)
        for item in ITEMS:
            self.assertEqual(read_program(program_text([item])), [item])
        for times in range(2000):
            items = self.random_items(chance, 5)
            self.assertTrue(all([is_item(item) for item in items]))
            self.assertEqual(read_program(program_text(items)), items)
        for many in (1, 49, 50):
            self.assertEqual(read_program(program_text([nested(many)])), [nested(many)])

    def test_unlike_programs_have_unlike_texts(self):
        writings = {}
        chance = random.Random(3)
        for times in range(2000):
            items = self.random_items(chance, 3)
            self.assertEqual(writings.setdefault(program_text(items), items), items)

    def test_no_other_text_is_its_writing(self):
        for text in (" dup", "dup ", "dup  dup", "dup\ndup", "06", "4:8", "0.5", "-0", "1:1", "{}", "{ dup}", "[1]", "(a)(b)",
                     "/a/b", "dup # remark", "dup\n", "#"):
            with self.subTest(text):
                self.assertNotEqual(program_text(read_program(text)), text)


if __name__ == "__main__":
    unittest.main()
