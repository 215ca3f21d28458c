"""Programs: read from their texts, and written as texts."""

from pageloom.errors import NoProgram
from pageloom.exact import is_number, read_number, text_of

LETTERS = "abcdefghijklmnopqrstuvwxyz"
NAME_SIGNS = "abcdefghijklmnopqrstuvwxyz0123456789-"
WORD_SIGNS = "abcdefghijklmnopqrstuvwxyz0123456789-:."
NO_TEXT_SIGNS = "()\n"
LONE_NAMES = ("[", "]")
LONGEST_NAME = 12
MOST_BRACES = 50


def is_name(word):
    """Whether a text is a name that can stand behind a slash."""
    if not 1 <= len(word) <= LONGEST_NAME or word[0] not in LETTERS:
        return False
    return all([sign in NAME_SIGNS for sign in word])


def is_plain_item(kind, held):
    """Whether two things are the parts of an item that is no proc."""
    if kind == "number":
        return is_number(held)
    if not isinstance(held, str):
        return False
    if kind == "do":
        return held in LONE_NAMES or is_name(held)
    if kind == "name":
        return is_name(held)
    return kind == "text" and not any([sign in NO_TEXT_SIGNS for sign in held])


def are_items(things):
    """Whether all of a list are items, procs with all that stands in them."""
    # Here and below a list keeps what is still to be done, so that
    # procs however deep within one another take no calls within calls.
    waiting = list(things)
    while waiting:
        thing = waiting.pop()
        if not isinstance(thing, tuple) or len(thing) != 2:
            return False
        kind, held = thing
        if kind == "proc" and isinstance(held, tuple):
            waiting.extend(held)
        elif not is_plain_item(kind, held):
            return False
    return True


def is_item(thing):
    """Whether any thing is an item."""
    return are_items([thing])


def refuse(text, at, words):
    """Refuses a text for what begins at this place of it."""
    ahead = text[:at]
    raise NoProgram(words, ahead.count("\n") + 1, at - ahead.rfind("\n"))


def line_end(text, at):
    """Where the line ends that the place is on."""
    end = text.find("\n", at)
    return len(text) if end < 0 else end


def skipped(text, at):
    """The next place, from this one on, that is no blank, line feed or remark."""
    while at < len(text) and text[at] in " \n#":
        at = line_end(text, at) if text[at] == "#" else at + 1
    return at


def word_end(text, at):
    """Where the word ends that begins at the place; the place itself without one."""
    while at < len(text) and text[at] in WORD_SIGNS:
        at += 1
    return at


def read_word(text, at):
    """The number, or name to be done, at a place, and where it ends."""
    end = word_end(text, at)
    word = text[at:end]
    found = read_number(word)
    if found is not None:
        return ("number", found), end
    if not is_name(word):
        refuse(text, at, "this word is neither a number nor a name")
    return ("do", word), end


def read_name(text, at):
    """The name behind the slash at a place, and where it ends."""
    end = word_end(text, at + 1)
    name = text[at + 1:end]
    if not is_name(name):
        refuse(text, at, "this slash has no name behind it")
    return ("name", name), end


def read_text(text, at):
    """The text in the round brackets that open at a place, and where they end."""
    end = at + 1
    while end < len(text) and text[end] not in NO_TEXT_SIGNS:
        end += 1
    if text[end:end + 1] != ")":
        refuse(text, at, "this text is not closed on its line")
    return ("text", text[at + 1:end]), end + 1


def read_plain_item(text, at):
    """The item at a place, if it is no proc, and where it ends."""
    sign = text[at]
    if sign in LONE_NAMES:
        return ("do", sign), at + 1
    if sign == "/":
        return read_name(text, at)
    if sign == "(":
        return read_text(text, at)
    if sign not in WORD_SIGNS:
        refuse(text, at, "this sign begins no item")
    return read_word(text, at)


def read_program(text):
    """A list of the items of a program's text."""
    if not isinstance(text, str):
        raise NoProgram("this is no text")
    braces = []
    levels = [[]]
    at = skipped(text, 0)
    while at < len(text):
        if text[at] == "{":
            if len(braces) == MOST_BRACES:
                refuse(text, at, "this brace is opened within too many others")
            braces.append(at)
            levels.append([])
            at += 1
        elif text[at] == "}":
            if not braces:
                refuse(text, at, "this brace closes none")
            braces.pop()
            proc = ("proc", tuple(levels.pop()))
            levels[-1].append(proc)
            at += 1
        else:
            item, at = read_plain_item(text, at)
            levels[-1].append(item)
        at = skipped(text, at)
    if braces:
        refuse(text, braces[-1], "this brace is never closed")
    return levels[0]


def plain_item_text(kind, held):
    """The writing of an item that is no proc."""
    if kind == "number":
        return text_of(held)
    if kind == "name":
        return "/" + held
    if kind == "text":
        return "(" + held + ")"
    return held


def program_text(items):
    """The writing of a list of items."""
    if not isinstance(items, list) or not are_items(items):
        raise NoProgram("this is no list of items")
    words = []
    waiting = items[::-1]
    while waiting:
        kind, held = waiting.pop()
        if kind == "proc":
            words.append("{")
            # The closing brace waits below the proc's items, as if it were a name to be done.
            waiting.append(("do", "}"))
            waiting.extend(held[::-1])
        else:
            words.append(plain_item_text(kind, held))
    return " ".join(words)


def count_items(items):
    """How many items there are in a list, those within procs, too."""
    many = 0
    waiting = list(items)
    while waiting:
        kind, held = waiting.pop()
        many += 1
        if kind == "proc":
            waiting.extend(held)
    return many
