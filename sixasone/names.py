"""What counts as a name and what as a whole number."""

FIGURES = "0123456789"
LETTERS = "abcdefghijklmnopqrstuvwxyz"
LONGEST = 8
RESERVED = ("open", "shut", "net")


def is_int(thing):
    """Whether any value is a whole number; True and False are none."""
    return isinstance(thing, int) and not isinstance(thing, bool)


def is_name(thing):
    """Whether any value is a name."""
    if not isinstance(thing, str) or not 1 <= len(thing) <= LONGEST:
        return False
    return thing not in RESERVED and thing.isascii() and thing.isalpha() and thing.islower()
