"""Texts of yards."""

EMPTY = "none"


def show_yard(yard):
    """Return the text of a yard."""
    return show_names(yard.parts)


def show_names(names):
    """Return names separated by spaces, or the word for none."""
    if len(names) == 0:
        return EMPTY
    return " ".join(names)
