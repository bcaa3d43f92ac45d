"""Rows: lists of lines."""

from pasthall.errors import BadRow

MOST_LINES = 40
MOST_SIGNS = 8


def is_line(text):
    """Whether a text is a line."""
    # Not isalpha and islower: signs are asked by their own bounds, a to z.
    return len(text) <= MOST_SIGNS and all(["a" <= sign <= "z" for sign in text])


def is_row(row):
    """Whether a list of texts is a row."""
    return len(row) <= MOST_LINES and all([is_line(text) for text in row])


def check_row(row):
    """Refuse what is no row."""
    if not is_row(row):
        raise BadRow("no row of lines")
