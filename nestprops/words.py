"""The words of texts: what a name is."""

LETTERS = "abcdefghijklmnopqrstuvwxyz"
RESERVED = ("all", "any", "of", "always", "never", "none")
LONGEST_NAME = 6


def is_name(word):
    """Return whether a string is a name."""
    if word in RESERVED or len(word) < 1 or len(word) > LONGEST_NAME:
        return False
    return all([letter in LETTERS for letter in word])
