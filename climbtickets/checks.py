"""What counts as an integer and as a position, for values of any kind."""


def is_whole(value):
    # True and False are ints to Python, but the document does not accept them.
    return isinstance(value, int) and not isinstance(value, bool)


def is_position(value, many):
    return is_whole(value) and 0 <= value < many
