"""What a passed value is."""


def is_whole(value):
    """Whether a value is an integer."""
    # Python counts True and False as integers, the package does not.
    return isinstance(value, int) and not isinstance(value, bool)


def is_index(value, many):
    """Whether a value is an integer from 0 to many - 1."""
    return is_whole(value) and 0 <= value < many


def is_listing(value, most):
    """Whether a value is a list or tuple of at most so many items."""
    return isinstance(value, (list, tuple)) and len(value) <= most


def is_couple(value):
    """Whether a value is a tuple of two."""
    return isinstance(value, tuple) and len(value) == 2


def is_doing(value, many):
    """Whether a value is a doing of one of the letters 0 to many - 1."""
    if not is_couple(value):
        return False
    word, letter = value
    # An object of another kind might compare itself to a string in its own way.
    return isinstance(word, str) and word in ("send", "get") and is_index(letter, many)
