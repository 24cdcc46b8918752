"""Texts of yards."""

EMPTY = "none"


def show_yard(yard):
    """Return the text of a yard."""
    if len(yard.parts) == 0:
        return EMPTY
    return " ".join(yard.parts)
