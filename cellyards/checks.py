"""Tests of plain values that the modules share."""

from cellyards.errors import InvalidNumber


def is_integer(thing):
    """Whether a value is an integer."""
    # To Python a bool is an int, and True is equal to 1.
    return isinstance(thing, int) and not isinstance(thing, bool)


def is_between(thing, least, most):
    """Whether a value is an integer from least to most."""
    return is_integer(thing) and least <= thing <= most


def is_list(thing):
    """Whether a value is taken where a list is wanted."""
    return isinstance(thing, (list, tuple))


def check_number(thing, least):
    """Raises InvalidNumber if a value is not an integer from least on."""
    if not is_integer(thing) or thing < least:
        raise InvalidNumber(thing)
