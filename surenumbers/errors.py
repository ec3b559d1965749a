"""The refusals: one class for each kind of failure."""


class NumberError(ValueError):
    """What every refusal of a wrong value stands under."""


class NoText(NumberError):
    """This is not the text of a thing."""

    def __init__(self, text):
        super().__init__("this is not the text of a thing")
        self.text = text


class TooLong(NumberError):
    """This is of a greater size than is let by."""

    def __init__(self, size):
        super().__init__("this is of too great a size")
        self.size = size


class TooGreat(NumberError):
    """A number that is looked at is above the limit."""

    def __init__(self, number):
        super().__init__("a number is above the limit")
        self.number = number


class NoEntry(NumberError):
    """This is not an entry."""

    def __init__(self, entry):
        super().__init__("this is not an entry")
        self.entry = entry


class NoDeed(NumberError):
    """At this place there is no deed."""

    def __init__(self, place):
        super().__init__("there is no deed at this place")
        self.place = place


class Full(NumberError):
    """The house has as many entries as it may have."""

    def __init__(self, many):
        super().__init__("the house is full")
        self.many = many


class Undone(NumberError):
    """Deeds that were done together are undone, for the one at this place."""

    def __init__(self, place):
        super().__init__("the deeds are undone")
        self.place = place


class NoLine(NumberError):
    """This line is not one of a house's text."""

    def __init__(self, line):
        super().__init__("this line is not one of a house's text")
        self.line = line


class Busy(NumberError):
    """The house is amid deeds that are done together."""


class NoParcel(NumberError):
    """This is not a parcel."""


class NoRow(NumberError):
    """This is not a row that a desk is told."""


class NotThere(KeyError):
    """This entry is not in the house."""

    def __init__(self, entry):
        super().__init__("this entry is not there")
        self.entry = entry


class NotHeld(KeyError):
    """This does not hold in the house."""

    def __init__(self, what):
        super().__init__("this does not hold")
        self.what = what


class NoCall(KeyError):
    """This label calls nothing."""

    def __init__(self, label):
        super().__init__("this label calls nothing")
        self.label = label


class NoBack(IndexError):
    """The house cannot go back to so many deeds."""

    def __init__(self, many):
        super().__init__("there is no such number of deeds to go back to")
        self.many = many
