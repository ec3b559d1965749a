"""A desk: it is told rows, and has a house of its own and labels for statements and claims."""

from surenumbers.basics import is_whole
from surenumbers.errors import NoCall, NoEntry, NoRow, NoText
from surenumbers.grounds import is_entry, needs
from surenumbers.houses import House
from surenumbers.making import made
from surenumbers.papers import is_statement_or_claim
from surenumbers.statements import is_statement
from surenumbers.things import is_label, read_thing, show_thing
from surenumbers.whys import why


def words_or_dash(words):
    """The words, a blank between, or a dash where there are none."""
    return " ".join(words) if len(words) > 0 else "-"


def say_names(desk):
    """All labels that call something."""
    return words_or_dash(sorted(desk.calls))


def say_facts(desk):
    """How many statements hold, and how many claims."""
    return f"{len(desk.house.facts())} {len(desk.house.claims())}"


def say_text(desk):
    """The text of the house in one row."""
    text = str(desk.house).replace("\n", " / ")
    return text if text != "" else "-"


def opposite(statement):
    """What is so where the statement isn't."""
    return statement[1] if statement[0] == "not" else ("not", statement)


def say_make(desk, what):
    """Make a certificate, and put the fact that it shows."""
    if not is_statement(what):
        raise NoRow("what is made is a statement")
    word, thing = made(what)
    shown = what if word == "yes" else opposite(what)
    desk.house.put(("fact", shown, ("judged", thing)))
    return word


def say_holds(desk, what):
    """Whether it holds."""
    return "yes" if desk.house.holds(what) else "no"


def say_why(desk, what):
    """Why it holds, or doesn't."""
    word, paper = why(desk.house, what)
    return f"{word} {show_thing(paper)}"


def say_put(desk, entry):
    """Put an entry."""
    return "new" if desk.house.put(entry) else "old"


def say_take(desk, entry):
    """Take an entry."""
    desk.house.take(entry)
    return "ok"


def label_of(desk, what):
    """The first label that calls this, or a question mark."""
    labels = [label for label in sorted(desk.calls) if desk.calls[label] == what]
    return labels[0] if len(labels) > 0 else "?"


def say_needs(desk, entry):
    """What an entry needs, by the labels."""
    if not is_entry(entry):
        raise NoEntry(entry)
    told = needs(entry)
    return "!" if told is None else words_or_dash([label_of(desk, what) for what in told])


ALONE = {"names": say_names, "facts": say_facts, "text": say_text}
OF_CALLED = {"make": say_make, "holds": say_holds, "why": say_why}
OF_ENTRY = {"put": say_put, "take": say_take, "needs": say_needs}


def read_part(text):
    """The thing of a row that has this text."""
    try:
        return read_thing(text)
    except NoText:
        raise NoRow("a thing of this row is not written as one") from None


def read_label(text):
    """The label of a row that has this text."""
    if not is_label(text):
        raise NoRow("a label of this row is none")
    return text


def called(desk, label):
    """What the label calls."""
    if label not in desk.calls:
        raise NoCall(label)
    return desk.calls[label]


def entry_of(what, ground):
    """The entry that says this, a statement or a claim, with this ground or working."""
    return ("fact" if is_statement(what) else "claim", what, ground)


def say_call(desk, label, thing):
    """Have the label call the thing."""
    if not is_statement_or_claim(thing):
        raise NoRow("only statements and claims are called")
    desk.calls[label] = thing
    return "ok"


def say_back(desk, many):
    """Have the house as it was behind so many deeds."""
    if not is_whole(many):
        raise NoRow("only to a number the house goes back")
    desk.house.back(many)
    return "ok"


def say_alone(desk, word):
    """What is told of a row of a word alone."""
    action = ALONE[word]
    return action(desk)


def say_of_label(desk, word, label):
    """What is told of a row of a word and a label."""
    action = OF_CALLED[word]
    return action(desk, called(desk, label))


def say_of_two(desk, word, label, thing):
    """What is told of a row of a word, a label and a thing."""
    if word == "call":
        return say_call(desk, label, thing)
    action = OF_ENTRY[word]
    return action(desk, entry_of(called(desk, label), thing))


class Desk:
    """A house of its own, and calls."""

    def __init__(self):
        self.house = House()
        self.calls = {}

    def say(self, row):
        """What is told of a row."""
        if not isinstance(row, str):
            raise NoRow("a row is a text")
        if row in ALONE:
            return say_alone(self, row)
        word, blank, rest = row.partition(" ")
        if word == "back":
            return say_back(self, read_part(rest))
        if word in OF_CALLED:
            return say_of_label(self, word, read_label(rest))
        if word != "call" and word not in OF_ENTRY:
            raise NoRow("a row begins with a word that a desk knows")
        label, blank, text = rest.partition(" ")
        return say_of_two(self, word, read_label(label), read_part(text))
