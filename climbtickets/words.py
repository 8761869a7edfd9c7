"""Words of a line, and integers among them."""

MOST_DIGITS = 4


def words_in(line):
    """The words of the line, or None if they are not separated by one space each."""
    words = line.split(" ")
    # An empty word comes of two spaces in a row, of a space at an end, or of an empty line.
    return None if "" in words else words


def number_in(word):
    """The integer that the word stands for, or None."""
    if not 1 <= len(word) <= MOST_DIGITS or not all([sign in "0123456789" for sign in word]):
        return None
    if word.startswith("0") and word != "0":
        return None
    return int(word)
