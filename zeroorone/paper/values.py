"""Values of all kinds: copies that share nothing with what they are copies of."""


def are_tuples_of_integers(keys):
    """Whether all keys are tuples of integers."""
    return all([isinstance(key, tuple) and all([isinstance(part, int) for part in key]) for key in keys])


def in_order(keys):
    """The keys of a dict, ascending if they can be compared."""
    if all([isinstance(key, int) for key in keys]) or all([isinstance(key, str) for key in keys]):
        return sorted(keys)
    return sorted(keys) if are_tuples_of_integers(keys) else list(keys)


def copied(value):
    """A copy of a value made of tuples, lists and dicts, the keys of dicts ascending."""
    if isinstance(value, tuple):
        return tuple([copied(member) for member in value])
    if isinstance(value, list):
        return [copied(member) for member in value]
    if isinstance(value, dict):
        return {key: copied(value[key]) for key in in_order(list(value))}
    return value
