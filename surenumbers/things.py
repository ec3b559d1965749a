"""Labels, things, their sizes and their texts."""

from surenumbers.basics import is_whole
from surenumbers.errors import NoText

LETTERS = "abcdefghijklmnopqrstuvwxyz"
FIGURES = "0123456789"

# Python itself refuses to write or read numbers of more than 4300 figures, so they go in groups of these.
GROUP = 60
GROUP_BASE = 10 ** 60


def all_among(text, signs):
    """Whether each sign of the text is one of these signs."""
    return all([sign in signs for sign in text])


def is_label(thing):
    """Whether this is a text of one to eight letters a to z."""
    return isinstance(thing, str) and 1 <= len(thing) <= 8 and all_among(thing, LETTERS)


def is_thing(thing):
    """Whether this is a whole number, a label, or a tuple of things."""
    if isinstance(thing, tuple):
        for part in thing:
            if not is_thing(part):
                return False
        return True
    return is_whole(thing) or is_label(thing)


def size_of(thing):
    """Of a tuple the size of its parts together, of all else 1."""
    if isinstance(thing, tuple):
        return sum([size_of(part) for part in thing])
    return 1


def show_number(number):
    """The number in figures."""
    groups = []
    left = abs(number)
    while left >= GROUP_BASE:
        left, group = divmod(left, GROUP_BASE)
        groups.append(str(group).zfill(GROUP))
    groups.append(str(left))
    sign = "-" if number < 0 else ""
    return sign + "".join(groups[::-1])


def show_thing(thing):
    """The text of a thing."""
    if isinstance(thing, tuple):
        return "(" + " ".join([show_thing(part) for part in thing]) + ")"
    if is_whole(thing):
        return show_number(thing)
    return thing


def read_figures(figures):
    """The number that these figures write."""
    first = len(figures) % GROUP
    number = int("0" + figures[:first])
    for at in range(first, len(figures), GROUP):
        number = number * GROUP_BASE + int(figures[at:at + GROUP])
    return number


def read_word(word):
    """The number or label that a word writes; None of no such word."""
    if is_label(word):
        return word
    figures = word.removeprefix("-")
    if figures == "" or not all_among(figures, FIGURES):
        return None
    number = read_figures(figures)
    return -number if word.startswith("-") else number


def read_loosely(text):
    """The one thing of a text, whatever blanks and noughts it has besides; None where there is no one thing."""
    rows = [[]]
    for word in text.replace("(", " ( ").replace(")", " ) ").split():
        if word == "(":
            rows.append([])
            continue
        if word == ")":
            part = tuple(rows.pop())
        else:
            part = read_word(word)
        if part is None or len(rows) == 0:
            return None
        rows[-1].append(part)
    if len(rows) != 1 or len(rows[0]) != 1:
        return None
    return rows[0][0]


def read_thing(text):
    """The thing that has just this text; else NoText."""
    if not isinstance(text, str):
        raise NoText(text)
    thing = read_loosely(text)
    if thing is None or show_thing(thing) != text:
        raise NoText(text)
    return thing


def rising(things):
    """A tuple of these things as their texts rise, each once."""
    by_text = {show_thing(thing): thing for thing in things}
    return tuple([by_text[text] for text in sorted(by_text)])
