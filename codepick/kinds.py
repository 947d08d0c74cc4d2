"""What kind of value a thing is, for checking what callers pass."""


def is_integer(thing):
    """Whether thing is an integer. Python counts bools among them, the document does not."""
    return isinstance(thing, int) and not isinstance(thing, bool)


def is_between(thing, least, most):
    """Whether thing is an integer from least to most."""
    return is_integer(thing) and least <= thing <= most
