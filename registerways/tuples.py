"""Tuples in the place of the lists that callers may pass."""


def in_tuples(value):
    """The value with a tuple in the place of each list, inside other lists and tuples too."""
    if isinstance(value, (list, tuple)):
        return tuple([in_tuples(part) for part in value])
    return value
