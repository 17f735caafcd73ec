"""The kinds of values that all parts of the package ask for [2, 3, 31]."""

_LETTERS = "abcdefghijklmnopqrstuvwxyz"
NAME_SIGNS = "abcdefghijklmnopqrstuvwxyz0123456789-"


def is_list(value):
    """Tell whether any value may be handed in where a list is told."""
    return isinstance(value, (list, tuple))


def is_integer(value):
    """Tell whether any value is an integer; True and False are none."""
    return isinstance(value, int) and not isinstance(value, bool)


def is_count(value):
    """Tell whether any value is an integer from 0 on, as counts and times are."""
    return is_integer(value) and value >= 0


def is_positive(value):
    """Tell whether any value is an integer from 1 on, as lengths are."""
    return is_integer(value) and value >= 1


def is_file_name(value):
    """Tell whether any value is a text of 1 to 24 small letters, digits and hyphens."""
    if not isinstance(value, str) or not 1 <= len(value) <= 24:
        return False
    return all([sign in NAME_SIGNS for sign in value])


def is_word(value):
    """Tell whether any value is such a text that begins with a letter or a digit."""
    return is_file_name(value) and value[0] != "-"


def is_name(value):
    """Tell whether any value is such a text that begins with a letter."""
    return is_file_name(value) and value[0] in _LETTERS
