"""What a thing is, asked before anything else is done with it."""

from freestrung.names import is_name


def is_row(thing):
    """Whether a thing is a tuple, or a list in the place of one."""
    return isinstance(thing, (tuple, list))


def is_whole(thing):
    """Whether a thing is an integer; True and False are none."""
    return isinstance(thing, int) and not isinstance(thing, bool)


def is_within(thing, low, high):
    """Whether a thing is an integer between two bounds, which count as well."""
    return is_whole(thing) and low <= thing <= high


def is_one_of(thing, words):
    """Whether a thing is one of some strings, whatever the thing is."""
    return isinstance(thing, str) and thing in words


def are_names(thing, least, most):
    """Whether a thing is a tuple of so many different names."""
    if not is_row(thing) or not least <= len(thing) <= most:
        return False
    return all([is_name(name) for name in thing]) and len(set(thing)) == len(thing)


def first_twice(names):
    """The number of the first of some names that an earlier one equals, or None."""
    for number, name in enumerate(names):
        if name in names[:number]:
            return number
    return None
