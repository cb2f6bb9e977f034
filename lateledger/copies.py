"""New lists and dicts in the place of those that are kept."""


def copied(value):
    """The value with new lists, tuples and dicts throughout."""
    if isinstance(value, list):
        return [copied(part) for part in value]
    if isinstance(value, tuple):
        return tuple([copied(part) for part in value])
    if isinstance(value, dict):
        return {key: copied(part) for key, part in value.items()}
    return value
