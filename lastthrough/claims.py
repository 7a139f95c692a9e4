"""The forms of claims."""

from lastthrough.houses import is_whole


def is_numbered(value):
    """Return whether the value is a tuple of a whole number, 0 or more, and anything else."""
    return isinstance(value, tuple) and len(value) == 2 and is_whole(value[0]) and value[0] >= 0
