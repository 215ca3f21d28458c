"""Point 0.2, (a) to (j), over programs of many forms; (g) and (h) stand with pageloom.looking and pageloom.passes."""

import random
import unittest
from fractions import Fraction

from benches import all_of
from pageloom.errors import NoProgram
from pageloom.inking import hidden, painted, who_inked
from pageloom.kinds import TAKES
from pageloom.machines import Machine
from pageloom.pages import beside, is_page, stacked
from pageloom.reading import program_text, read_program
from pageloom.shapes import is_inside, is_on_stroke
from programs import PIECES, SETUP, left_behind, machine_behind, random_program, shown
from samples import num

MIDDLE = Fraction(1, 2)


def inked_by_hand(deeds, x, y):
    """The ink of a cell as the definition has it."""
    ink = 0
    x, y = num(x + MIDDLE), num(y + MIDDLE)
    for deed in deeds:
        if deed == ("erase",):
            ink = 0
            continue
        kind, path, how, deed_ink, clips = deed
        is_in = is_inside(path, how, x, y) if kind == "fill" else is_on_stroke(path, how, x, y)
        if is_in and all(is_inside(around, rule, x, y) for around, rule in clips):
            ink = deed_ink
    return ink


def drawing(chance, many):
    """A program that draws much."""
    words = []
    for turn in range(many):
        numbers = [f"{chance.randrange(-4, 19)}:2" for place in range(6)]
        words.append(f"{chance.randrange(16)} setink {chance.randrange(5)}:2 setwidth")
        words.append(chance.choice((
            "{0} {1} {2} {3} rect", "{0} {1} moveto {2} {3} lineto {4} {5} lineto", "{0} {1} moveto {2} {3} {4} {5} 3 3 curveto closepath",
            "{0} {1} moveto {2} {3} rlineto {4} {5} rmoveto 1 1 rlineto", "{0} {1} moveto (ab) show", "gsave 1 rotate {0} {1} moveto (ca) show",
        )).format(*numbers))
        words.append(chance.choice(("fill", "eofill", "stroke", "fill", "eofill", "stroke", "clip newpath", "eoclip stroke", "erase", "grestore")))
        if chance.random() < 0.2:
            words.append("initclip")
    return " ".join(words)


class Promises(unittest.TestCase):
    def test_a_programs_read_back(self):
        chance = random.Random(1)
        for turn in range(500):
            items = read_program(random_program(chance, 8))
            text = program_text(items)
            self.assertEqual(read_program(text), items)
            others = [text + " ", " " + text, text + "#", text + "\n"]
            if "(" not in text and " " in text:
                others += [text.replace(" ", "\n", 1), text.replace(" ", "  ", 1)]
            for other in others:
                self.assertEqual(read_program(other), items)
                self.assertNotEqual(program_text(items), other)

    def test_b_pages_are_those_of_their_deeds(self):
        chance = random.Random(2)
        seen = {}
        for turn in range(40):
            machine = Machine(9, 7)
            machine.run(SETUP)
            machine.run(drawing(chance, 6))
            deeds, page = machine.deeds(), machine.page()
            self.assertEqual(page, tuple(tuple(inked_by_hand(deeds, x, y) for x in range(9)) for y in range(7)))
            self.assertEqual(machine.run("showpage"), None)
            self.assertEqual((machine.pages(), machine.deeds()), ([page], []))
            self.assertTrue(is_page(page))
            for row in page:
                seen.update((ink, True) for ink in row)
        self.assertEqual(len(seen), 16)

    def test_c_windows_and_shifts(self):
        chance = random.Random(3)
        for turn in range(25):
            machine = Machine(9, 7)
            text = drawing(chance, 5).replace("showpage", "")
            machine.run(SETUP)
            machine.run(text)
            deeds, page = machine.deeds(), machine.page()
            x, y = chance.randrange(1, 9), chance.randrange(1, 7)
            upper = beside(painted(deeds, x, y), painted(deeds, 9 - x, y, left=x))
            lower = beside(painted(deeds, x, 7 - y, top=y), painted(deeds, 9 - x, 7 - y, left=x, top=y))
            self.assertEqual(stacked(upper, lower), page)
            other = Machine(9, 7)
            other.run(SETUP + "newpath 3 -2 translate 1 1 moveto")
            other.run(text)
            self.assertEqual(painted(other.deeds(), 9, 7, left=3, top=-2), page)

    def test_d_faults_change_nothing(self):
        chance = random.Random(4)
        faults = 0
        for turn in range(400):
            machine = machine_behind(random_program(chance, 6))
            was = all_of(machine.desk)[:1] + all_of(machine.desk)[1:2]
            name = chance.choice(sorted(TAKES))
            if name == "show":
                continue
            outcome = machine.run(name)
            if outcome is not None and outcome != ("limit", "") and outcome[1] == name:
                faults += 1
                self.assertEqual(all_of(machine.desk)[:2], was, name)
                self.assertIsNone(machine.run("{ " + name + " } stopped"))
                self.assertEqual(machine.stack()[-1], "true")
                self.assertIsNone(machine.run("pop"))
                self.assertEqual(all_of(machine.desk)[:2], was, name)
            self.assertIsNone(machine.run("1 2 add"))
            self.assertEqual(machine.stack()[-1], "3")
        self.assertGreater(faults, 150)

    def test_e_a_restore_brings_back(self):
        chance = random.Random(5)
        for turn in range(300):
            machine = machine_behind(random_program(chance, 5))
            self.assertIsNone(machine.run("save"))
            desk = machine.desk
            save = desk.operands[-1]
            (scene, held), live = all_of(desk)[:2], desk.saves
            how, kept = desk.how, desk.kept
            machine.run(random_program(chance, 8))
            if desk.saves[:len(live)] != live:
                continue
            desk.operands.append(save)
            before = machine.deeds(), machine.pages(), desk.force
            self.assertIsNone(machine.run("restore"))
            self.assertEqual((desk.how, desk.kept), (how, kept))
            self.assertEqual({number: desk.held[number] for number in held}, held)
            self.assertEqual((machine.deeds(), machine.pages(), desk.force), before)
            desk.operands.append(save)
            self.assertEqual(machine.run("restore"), ("save", "restore"))

    def test_f_any_slices(self):
        chance = random.Random(6)
        ends = {}
        for turn in range(300):
            text = random_program(chance, 8)
            steps = chance.choice((5, 20, 60, 3000))
            machine, other = Machine(5, 4, steps=steps), Machine(5, 4, steps=steps)
            machine.run(SETUP)
            other.run(SETUP)
            outcome = machine.run(text)
            other.start(text)
            most = chance.choice((1, 3, 50))
            while not other.go(chance.randrange(1, most + 1)):
                pass
            self.assertEqual(other.ended(), outcome, text)
            self.assertEqual((shown(other), all_of(other.desk)), (shown(machine), all_of(machine.desk)), text)
            ends[outcome] = True
        self.assertIn(("limit", ""), ends)
        self.assertIn(None, ends)
        self.assertGreater(len(ends), 15)

    def test_i_hidden_deeds(self):
        chance = random.Random(9)
        many = 0
        for turn in range(40):
            machine = Machine(9, 7)
            machine.run(SETUP)
            machine.run(drawing(chance, 8))
            deeds, page = machine.deeds(), machine.page()
            gone = hidden(deeds, 9, 7)
            many += len(gone)
            self.assertEqual(painted([deed for at, deed in enumerate(deeds) if at not in gone], 9, 7), page)
            last = {who_inked(deeds, x, y) for x in range(9) for y in range(7)} - {None}
            self.assertEqual(sorted(last), [at for at in range(len(deeds)) if at not in gone])
        self.assertGreater(many, 20)

    def test_j_runs_taken_back(self):
        chance = random.Random(10)
        for turn in range(200):
            machine = machine_behind(random_program(chance, 6))
            twin = machine.twin()
            was = left_behind(machine), all_of(machine.desk)[0]
            runs = [random_program(chance, 6) for run in range(3)]
            for text in runs:
                machine.run(text)
            for text in runs:
                machine.back()
            self.assertEqual((left_behind(machine), all_of(machine.desk)[0]), was)
            for text in runs:
                self.assertEqual(machine.run(text), twin.run(text))
                self.assertEqual(left_behind(machine), left_behind(twin))

    def test_the_pieces_of_programs_can_be_read(self):
        for piece in PIECES:
            read_program(piece.replace("#", ""))
        with self.assertRaises(NoProgram):
            read_program("{ # }")


if __name__ == "__main__":
    unittest.main()
