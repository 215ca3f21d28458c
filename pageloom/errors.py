"""The refusals of the program, all under PageError and none under another."""


class PageError(ValueError):
    """Any refusal."""


class NoNumber(PageError):
    """What was handed in is no number, or would be one of too many figures."""


class NoProgram(PageError):
    """What was handed in can not be read or written as a program.

    row and column, counted from 1, tell where a text can not be read;
    both are 0 where there is no such place.
    """

    # The defaults let the error be made again from its words alone, as a copy of it is.
    def __init__(self, words, row=0, column=0):
        PageError.__init__(self, words)
        self.row = row
        self.column = column


class NoMatrix(PageError):
    """What was handed in is no matrix."""


class NoPath(PageError):
    """What was handed in is no path, or no point of one."""


class NoRule(PageError):
    """What was handed in is no rule of what lies in a path."""


class NoDeeds(PageError):
    """What was handed in is no list of deeds of ink."""


class NoSize(PageError):
    """What was handed in is no size or place of a page."""


class NoSteps(PageError):
    """What was handed in is no number of steps."""


class NoPage(PageError):
    """What was handed in is no page, or would not make one."""


class NoText(PageError):
    """What was handed in is no text, or not the writing of a page."""


class Busy(PageError):
    """A run goes on, so this can not be done now."""


class Idle(PageError):
    """No run goes on, so there is none to go on with."""


class NoBack(PageError):
    """There is no run to be taken back, or done again."""
