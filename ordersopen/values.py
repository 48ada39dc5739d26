"""The general rules for values: integers, ascending order, copies."""


def is_integer(value):
    """Tell whether any value is an integer; True and False are none."""
    return isinstance(value, int) and not isinstance(value, bool)


def is_ascending(items):
    """Tell whether each item is less than the next one, so that none stands twice."""
    return all([items[at] < items[at + 1] for at in range(len(items) - 1)])


def copied(value):
    """Return an equal value that shares no list with the one that is passed."""
    if isinstance(value, list):
        return [copied(item) for item in value]
    if isinstance(value, tuple):
        return tuple([copied(item) for item in value])
    return value


def has_no_truth(value):
    """Tell whether neither any value nor anything within it is True or False.

    What waits stands in a list, as terms may be nested deep.
    """
    waiting = [value]
    while len(waiting) > 0:
        one = waiting.pop()
        if isinstance(one, bool):
            return False
        if isinstance(one, (list, tuple)):
            waiting.extend(list(one))
    return True
