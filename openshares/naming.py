"""Names of persons."""

LETTERS = "abcdefghijklmnopqrstuvwxyz"
DIGITS = "0123456789"
LONGEST_NAME = 6


def valid_name(text):
    """Tell whether the string is a name."""
    if not 1 <= len(text) <= LONGEST_NAME:
        return False
    return text[0] in LETTERS and all([char in LETTERS + DIGITS for char in text])
