"""Values of every kind, and what a call raises, for all tests."""


def nested(kind, deep):
    """A tuple, list or dict in one in one .., so many deep."""
    value = 0
    for _ in range(deep):
        value = {"a": value} if kind is dict else kind([value])
    return value


PLAIN = [None, True, False, 0, 1, 2, -1, 10 ** 59, -(10 ** 59)]
STRINGS = ["", "a", "b", "shore", "abcdefgh", "abcdefghi", "A", "aB", "a b", "a1", "a\n", "a_", "`", "{", "-", "x" * 6000]
MANY = [(), [], {}, ("a",), ["a"], {"a": 1}, {1: "a"}, ("a", "b"), ("a", "a"), ("a", True), (1, 2), ("deed", "a"),
        ["deed", "a"], ([],), ({},), ((),), [[]], (None,), tuple(range(5000)), list(range(5000)), ("a",) * 5000]
DEEP = [nested(tuple, 20), nested(list, 20), nested(dict, 20)]
ANY = PLAIN + STRINGS + MANY + DEEP


def copied(value):
    """A copy of a value of lists, tuples and dicts, to see later whether it was modified."""
    if isinstance(value, dict):
        return {key: copied(value[key]) for key in value}
    if isinstance(value, (list, tuple)):
        return type(value)([copied(each) for each in value])
    return value


def raised(work, *values, **named):
    """The repr of the error that a call raises, or None."""
    try:
        work(*values, **named)
    except Exception as error:
        return repr(error)
    return None


def error_of(work, *values, **named):
    """The error that a call raises; fails if it raises none."""
    try:
        work(*values, **named)
    except Exception as error:
        return error
    raise AssertionError("nothing was raised")


def is_assigned(thing, name, value=None):
    """Whether an attribute of a thing can be assigned."""
    try:
        setattr(thing, name, value)
    except AttributeError:
        return False
    return True
