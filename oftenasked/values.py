"""Kinds of values. Each function here takes any value at all and raises nothing."""


def is_whole(value):
    """Whether value is an integer; True and False are none."""
    return isinstance(value, int) and not isinstance(value, bool)


def is_letter(value):
    """Whether value is a text of one small letter."""
    return isinstance(value, str) and len(value) == 1 and "a" <= value <= "z"


def is_ascending(value):
    """Whether value is a text of unlike small letters, ascending; it may be empty."""
    if not isinstance(value, str) or not all([is_letter(sign) for sign in value]):
        return False
    return all([sign < later for sign, later in zip(value, value[1:])])


def is_pair(value):
    """Whether value is a tuple of two values."""
    return isinstance(value, tuple) and len(value) == 2
