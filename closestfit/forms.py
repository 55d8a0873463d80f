"""Small questions about the form of whatever is handed in."""


def is_integer(value):
    """An integer is never True or False."""
    return isinstance(value, int) and not isinstance(value, bool)


def is_natural(value):
    return is_integer(value) and value >= 0


def is_index(value, many):
    """Whether the value is the index of one of so many things."""
    return is_integer(value) and 0 <= value < many


def is_tuple_of(value, least, most):
    return isinstance(value, tuple) and least <= len(value) <= most


def has_word(value, word, length):
    """Whether the value is a tuple of this length that begins with the word."""
    return is_tuple_of(value, length, length) and isinstance(value[0], str) and value[0] == word


def are_ascending_indexes(value, many):
    """Whether the value is an ascending tuple of indexes of so many things."""
    if not isinstance(value, tuple):
        return False
    before = -1
    for index in value:
        if not is_index(index, many) or index <= before:
            return False
        before = index
    return True
