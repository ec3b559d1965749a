"""What the other modules need of whole numbers and tuples."""


def is_whole(thing):
    """Whether this is a whole number: Python counts truths among the ints, the document does not."""
    return isinstance(thing, int) and not isinstance(thing, bool)


def within(thing, low, high):
    """Whether this is a whole number from low to high."""
    return is_whole(thing) and low <= thing <= high


def is_form(thing, word, length):
    """Whether this is a tuple of this length that begins with this word."""
    return isinstance(thing, tuple) and len(thing) == length and thing[0] == word
