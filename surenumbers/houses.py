"""Houses: entries that come and go, and what holds by them."""

from surenumbers.basics import is_pair, within
from surenumbers.errors import Busy, Full, NoBack, NoDeed, NoEntry, NotThere, NumberError, Undone
from surenumbers.grounds import is_entry
from surenumbers.judging import refuse_longer
from surenumbers.kinds import MANY, MOST
from surenumbers.papers import Looked, showing_rows
from surenumbers.things import is_thing, rising, show_thing


def refuse_no_deeds(deeds):
    """Refuse what is no tuple of deeds, whatever entries these have."""
    if not isinstance(deeds, tuple):
        raise NoDeed(-1)
    for place, deed in enumerate(deeds):
        if not is_pair(deed) or deed[0] not in ("put", "take"):
            raise NoDeed(place)


class House:
    """Entries, eldest first, each looked at when it came."""

    def __init__(self, entries=(), *, most=MOST):
        self.most = most
        # What was there behind each number of deeds, and is now: going back leaves the last ones out.
        self.states = ((),)
        self.is_amid = False
        self.many_looked = 0
        self.begun = 0
        self.left = 0
        for entry in entries:
            self.do_put(entry)

    def rows(self):
        """The entries as they were looked at."""
        return self.states[-1]

    def refuse_amid(self):
        """Refuse what would come amid deeds that are done together."""
        if self.is_amid:
            raise Busy("deeds are being done together")

    def do_put(self, entry):
        """What put does; not counted as a call."""
        if not is_entry(entry):
            raise NoEntry(entry)
        refuse_longer(entry, self.most)
        if self.has(entry):
            return False
        if len(self) >= MANY:
            raise Full(MANY)
        self.states += (self.rows() + (Looked(entry),),)
        self.many_looked += 1
        return True

    def do_take(self, entry):
        """What take does; not counted as a call."""
        if not self.has(entry):
            raise NotThere(entry)
        text = show_thing(entry)
        self.states += (tuple([row for row in self.rows() if row.text != text]),)

    def do_deed(self, deed, look):
        """Do one of several deeds, and have it looked at."""
        word, entry = deed
        told = self.do_put(entry) if word == "put" else self.do_take(entry)
        if look is not None:
            look(self)
        return told

    def do_together(self, deeds, look):
        """What together does, once nothing forbids to begin."""
        told = []
        kept = self.states
        self.is_amid = True
        try:
            for place, deed in enumerate(deeds):
                try:
                    told.append(self.do_deed(deed, look))
                except (NumberError, KeyError) as cause:
                    raise Undone(place) from cause
            kept = self.states
        finally:
            self.states = kept
            self.is_amid = False
        return tuple(told)

    def put(self, entry):
        """Put an entry: whether it is new."""
        self.begun += 1
        try:
            self.refuse_amid()
            return self.do_put(entry)
        finally:
            self.left += 1

    def take(self, entry):
        """Take an entry that is there."""
        self.begun += 1
        try:
            self.refuse_amid()
            self.do_take(entry)
        finally:
            self.left += 1

    def together(self, deeds, *, look=None):
        """Do all of these deeds, or none: what each told."""
        self.begun += 1
        try:
            self.refuse_amid()
            refuse_no_deeds(deeds)
            return self.do_together(deeds, look)
        finally:
            self.left += 1

    def back(self, many):
        """Have all as it was behind so many deeds."""
        self.begun += 1
        try:
            self.refuse_amid()
            if not within(many, 0, len(self.states) - 1):
                raise NoBack(many)
            self.states = self.states[:many + 1]
        finally:
            self.left += 1

    def busy(self):
        """Whether deeds are being done together."""
        return self.is_amid

    def looks(self):
        """How many entries were looked at, those that are no more too."""
        return self.many_looked

    def log(self):
        """How many calls of deeds were begun, and how many have come to their end."""
        return self.begun, self.left

    def holds(self, what):
        """Whether this holds."""
        return is_thing(what) and show_thing(what) in showing_rows(self.rows())

    def has(self, entry):
        """Whether this entry is there."""
        return is_thing(entry) and show_thing(entry) in self.texts()

    def said(self, what):
        """The grounds or workings of the entries that say this."""
        if not is_thing(what):
            return ()
        text = show_thing(what)
        return tuple([row.entry[2] for row in self.rows() if row.says == text])

    def entries(self, *, by=None):
        """The entries, eldest first, or as what `by` tells of them rises."""
        entries = [row.entry for row in self.rows()]
        if by is None:
            return tuple(entries)
        places = sorted([(by(entry), place) for place, entry in enumerate(entries)])
        return tuple([entries[place] for key, place in places])

    def held(self, word):
        """What holds of the entries of this word, rising."""
        entries = [row.entry for row in showing_rows(self.rows()).values()]
        return rising(tuple([entry[1] for entry in entries if entry[0] == word]))

    def facts(self):
        """The statements that hold."""
        return self.held("fact")

    def claims(self):
        """The claims that hold."""
        return self.held("claim")

    def texts(self):
        """The texts of the entries, eldest first."""
        return [row.text for row in self.rows()]

    def __len__(self):
        return len(self.rows())

    def __eq__(self, other):
        return isinstance(other, House) and sorted(self.texts()) == sorted(other.texts())

    def __str__(self):
        return "\n".join(self.texts())
