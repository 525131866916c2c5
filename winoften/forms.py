"""The forms of plain values that the other modules ask for (promises 2 and 8)."""


def is_whole(value):
    """Tell whether a value is an integer; True and False are none."""
    return isinstance(value, int) and value is not True and value is not False


def is_list(value):
    """Tell whether a value may be passed where a list is asked for."""
    return isinstance(value, (list, tuple))


def is_list_of(value, fewest, most):
    """Tell whether a value may be passed as a list with so many items."""
    return is_list(value) and fewest <= len(value) <= most


def is_tuple_of(value, size):
    """Tell whether a value is a tuple with so many items; a list is none."""
    return isinstance(value, tuple) and len(value) == size
