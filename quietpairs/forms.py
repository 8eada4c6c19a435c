"""Questions about the form of values that may be any value."""


def is_name(value):
    """Whether the value is a string of 1 to 8 letters from a to z."""
    return isinstance(value, str) and 1 <= len(value) <= 8 and all(["a" <= letter <= "z" for letter in value])


def is_from_zero(value):
    """Whether the value is an integer from 0 on; True and False are not integers."""
    return isinstance(value, int) and not isinstance(value, bool) and value >= 0


def is_up_to(value, most):
    """Whether the value is an integer from 0 to this one."""
    return is_from_zero(value) and value <= most


def has_keys(value, names):
    """Whether the value is a dict with exactly these names as keys."""
    return isinstance(value, dict) and len(value) == len(names) and all([name in value for name in names])


def bad_index(items, names):
    """The least index of an item that is not one of the names or equals an earlier item; None if there is none."""
    for index, item in enumerate(items):
        if item not in names or item in items[:index]:
            return index
    return None


def is_lot(value, names):
    """Whether the value is a list of different ones of the names."""
    return isinstance(value, list) and bad_index(value, names) is None
