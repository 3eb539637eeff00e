"""Shown values: told apart by their kinds, gone through, and changed at any depth."""


def strict(value):
    """The same value, written so that True and 1, False and 0 are told apart, and the order of fields is not."""
    if type(value) is dict:
        return ("dict", [(field, strict(value[field])) for field in sorted(value)])
    if type(value) is list:
        return ("list", [strict(inner) for inner in value])
    return (type(value).__name__, value)


def holders(value):
    """All dicts and lists of a value."""
    told, ahead = [], [value]
    while ahead:
        one = ahead.pop()
        if type(one) in (dict, list):
            told.append(one)
            ahead += one.values() if type(one) is dict else one
    return told


def spoil(value):
    """Change each dict and each list of a value."""
    for one in holders(value):
        if type(one) is dict:
            one.clear()
            one["spoilt"] = 1
        else:
            one.clear()
            one.append("spoilt")
