"""What values are."""


def is_number(thing):
    """Whether thing is a number: True and False are none."""
    return isinstance(thing, int) and not isinstance(thing, bool)


def is_row_of_numbers(thing):
    """Whether thing is a tuple of numbers."""
    return isinstance(thing, tuple) and all([is_number(part) for part in thing])
