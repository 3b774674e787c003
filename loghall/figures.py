"""Whole numbers written in figures."""

FIGURES = "0123456789"


def read_number(text, most):
    """The number from 0 to most that has these figures; None if none has them."""
    if not 1 <= len(text) <= len(str(most)) or not all(sign in FIGURES for sign in text):
        return None
    number = int(text)
    # A number has one text, so writing it again finds a 0 that stands ahead.
    return number if number <= most and str(number) == text else None
