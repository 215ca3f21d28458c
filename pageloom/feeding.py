"""Programs fed to a machine in pieces."""

from pageloom.errors import NoText
from pageloom.reading import line_end, program_text, read_program

PARTINGS = " \n"


def text_end(text, at):
    """Where the text ends that opens at a place: behind its bracket, or at the end of its line."""
    end = line_end(text, at)
    bracket = text.find(")", at, end)
    return end if bracket < 0 else bracket + 1


def ready_end(text):
    """Where the part of a text ends that is ready."""
    ready = depth = at = 0
    while at < len(text):
        sign = text[at]
        if sign == "#":
            at = line_end(text, at)
        elif sign == "(":
            at = text_end(text, at)
        else:
            at += 1
            if sign == "{":
                depth += 1
            elif sign == "}":
                depth = max(depth - 1, 0)
            elif sign in PARTINGS and depth == 0:
                ready = at
    return ready


class Feeder:
    """What feeds a machine with a program in pieces."""

    def __init__(self, machine):
        self.machine = machine
        self.kept = ""
        self.fault = None

    def feed(self, piece):
        """Does what is ready of all that was kept and the piece, and tells the first fault, or None."""
        if not isinstance(piece, str):
            raise NoText("a piece is a text")
        whole = self.kept + piece
        return self.do_up_to(whole, ready_end(whole))

    def end(self):
        """Does all that was kept, and tells the first fault, or None."""
        return self.do_up_to(self.kept, len(self.kept))

    def waiting(self):
        """What is kept."""
        return self.kept

    def do_up_to(self, whole, ready):
        """Does what is ready of a text, up to this place, and keeps the rest."""
        self.machine.need_rest()
        items = read_program(whole[:ready])
        self.kept = whole[ready:]
        for item in items:
            if self.fault is None:
                self.fault = self.machine.run(program_text([item]))
        return self.fault
