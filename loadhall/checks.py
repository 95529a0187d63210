"""What several classes ask of the things that are handed in."""


def is_number_from(thing, least):
    """Tell whether a thing is a whole number, and no less than that one."""
    return isinstance(thing, int) and not isinstance(thing, bool) and thing >= least


def is_number_below(thing, most):
    """Tell whether a thing is a whole number from 0 on and below that one."""
    return is_number_from(thing, 0) and thing < most
