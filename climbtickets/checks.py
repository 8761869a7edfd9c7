"""What counts as an integer, a position and an answer, for values of any kind."""


def is_whole(value):
    # True and False are ints to Python, but the document does not accept them.
    return isinstance(value, int) and not isinstance(value, bool)


def is_position(value, many):
    return is_whole(value) and 0 <= value < many


def has_form(value, words, size):
    """Whether the value is a tuple of this size that begins with one of the words."""
    # An item that is not a string is not compared: it may claim to be equal to a word.
    return isinstance(value, tuple) and len(value) == size and isinstance(value[0], str) and value[0] in words
