"""Texts and the numbers written in them. Nothing here raises an error."""

DIGITS = "0123456789"


def is_text(value):
    """Tell whether the value is a text: characters from the space to the tilde, and newlines."""
    return type(value) is str and all([" " <= sign <= "~" or sign == "\n" for sign in value])


def read_whole(word, most):
    """The number from 0 to `most` that is written so, without leading zeros; None for every other word."""
    # A longer word is too large or not written so, and Python does not read words of any length.
    if not 1 <= len(word) <= len(str(most)):
        return None
    if not all([sign in DIGITS for sign in word]):
        return None
    number = int(word)
    return number if number <= most and str(number) == word else None


def read_row(word, most_many, most):
    """The row of 1 to `most_many` numbers from 0 to `most` joined by dots; None for every other word."""
    words = word.split(".")
    if len(words) > most_many:
        return None
    row = [read_whole(part, most) for part in words]
    return None if None in row else row


def row_text(row):
    """The numbers joined by dots."""
    return ".".join([str(number) for number in row])


def value_text(value):
    """The number of a value, or the sign for None."""
    return "-" if value is None else str(value)
