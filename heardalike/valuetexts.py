"""Shown values as texts."""


def quoted(text):
    """A text between two quotes."""
    # The backslashes first: those that are set ahead of quotes are not to be doubled.
    return "\"" + text.replace("\\", "\\\\").replace("\"", "\\\"") + "\""


def plain_text(value):
    """The text of a shown value that holds no others."""
    if value is None:
        return "null"
    # True equals 1 and False 0, so truths are told by what they are.
    if value is True:
        return "true"
    if value is False:
        return "false"
    return quoted(value) if isinstance(value, str) else str(value)


# A part of a value's text is a tuple: whether it is written already, and the text, or else the value.


def dict_parts(value):
    """The parts of a dict's text."""
    parts = []
    for field in sorted(value):
        parts.append((True, ("," if parts else "{") + quoted(field) + ":"))
        parts.append((False, value[field]))
    parts.append((True, "}" if parts else "{}"))
    return parts


def list_parts(value):
    """The parts of a list's text."""
    parts = []
    for inner in value:
        parts.append((True, "," if parts else "["))
        parts.append((False, inner))
    parts.append((True, "]" if parts else "[]"))
    return parts


def parts_of(value):
    """The parts of a shown value's text."""
    if isinstance(value, dict):
        return dict_parts(value)
    if isinstance(value, list):
        return list_parts(value)
    return [(True, plain_text(value))]


def value_text(value):
    """A shown value as a text."""
    told = []
    # Not by calls: values may stand deeper in one another than calls should go. What is last here comes next.
    ahead = [(False, value)]
    while ahead:
        written, part = ahead.pop()
        if written:
            told.append(part)
        else:
            ahead.extend(parts_of(part)[::-1])
    return "".join(told)
