"""What an integer, a name, a lead and a row of words are."""

MOST_LETTERS = 8
MOST_IN_LEAD = 4


def is_integer(value):
    """Whether any value is an integer and not a bool."""
    return isinstance(value, int) and not isinstance(value, bool)


def is_name(value):
    """Whether any value is a string of 1 to 8 letters a to z."""
    if not isinstance(value, str) or len(value) > MOST_LETTERS:
        return False
    return value.isascii() and value.isalpha() and value.islower()


def is_own_name(value):
    """Whether any value is a name that an isle or a wire may have."""
    return is_name(value) and value != "shore"


def is_name_row(value, most):
    """Whether any value is a tuple of at most so many different names, without the shore."""
    if not isinstance(value, tuple) or len(value) > most:
        return False
    for name in value:
        if not is_own_name(name):
            return False
    return len(set(value)) == len(value)


def is_lead(value):
    """Whether any value is a tuple of at most 4 different names, without the shore."""
    return is_name_row(value, MOST_IN_LEAD)


def is_words(value, words):
    """Whether any value is a tuple of one or more different strings, all of them in the tuple of words."""
    if not isinstance(value, tuple) or not isinstance(words, tuple) or len(value) == 0:
        return False
    if not all([isinstance(word, str) and word in words for word in value]):
        return False
    return len(set(value)) == len(value)
