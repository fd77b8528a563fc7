"""What integers, pictures and ascending sequences are, for all that checks arguments."""


def is_integer(value, least, most):
    """Tell whether a value is an integer from the least to the most."""
    # Python counts True and False as integers, and the package does not.
    return isinstance(value, int) and not isinstance(value, bool) and least <= value <= most


def is_picture(value, cells):
    """Tell whether a value is a string with 0 or 1 for each cell."""
    return isinstance(value, str) and len(value) == cells and all([sign in "01" for sign in value])


def is_ascending(items):
    """Tell whether each item, of those that can be compared, is greater than the one before it."""
    return all([items[at - 1] < items[at] for at in range(1, len(items))])
