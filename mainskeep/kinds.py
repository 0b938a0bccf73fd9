"""What kind a thing is, asked of any thing."""


def is_whole_number(thing):
    """Whether any thing is a whole number."""
    # Python counts True and False among the whole numbers; the program doesn't.
    return isinstance(thing, int) and not isinstance(thing, bool)


def is_within(thing, low, high):
    """Whether any thing is a whole number from the low one to the high one."""
    return is_whole_number(thing) and low <= thing <= high


def is_row(thing, least, most):
    """Whether any thing is a tuple of so many things at least, and so many at most."""
    return isinstance(thing, tuple) and least <= len(thing) <= most
