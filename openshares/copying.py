"""Copies of any value."""


def copied(value):
    """Return the value with new lists and dicts in the place of all that are in it."""
    if isinstance(value, list):
        return [copied(item) for item in value]
    if isinstance(value, tuple):
        return tuple([copied(item) for item in value])
    if isinstance(value, dict):
        return {key: copied(value[key]) for key in value}
    return value
