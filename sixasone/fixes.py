"""The least names to be made sure, so that a web is never worse than another one."""

from sixasone.errors import TooMany
from sixasone.lookers import shows_apart
from sixasone.orders import parted_by
from sixasone.ways import least_ways

MOST_NAMES = 8


def tuples_of(names):
    """All ascending tuples of ascending names, by their lengths, then in their order."""
    longest = [()]
    found = [()]
    while longest:
        longest = [row + (name,) for row in longest for name in names if not row or name > row[-1]]
        found = found + longest
    return found


def check_names(web):
    """Raises TooMany if a web has too many names for a search."""
    if abs(web) > MOST_NAMES:
        raise TooMany(MOST_NAMES)


def least_sure(one, other):
    """The first names with which made sure one <= other, and why none ahead of them will do."""
    check_names(other)
    least = least_ways(one)
    reasons = []
    for names in tuples_of(other.names):
        pair = parted_by(least, other.sure(*names))
        if pair is None:
            return names, reasons
        reasons.append((names, pair[0], pair[1]))
    return None, reasons


def is_reason(one, other, names, thing):
    """Whether any value tells why some names made sure will not do."""
    if not isinstance(thing, tuple) or len(thing) != 3 or thing[0] != names:
        return False
    return shows_apart(one, other.sure(*names), thing[1], thing[2])


def shows_least_sure(one, other, names, reasons):
    """Whether any two values are as least_sure tells."""
    check_names(other)
    ahead = tuples_of(other.names)
    if names is not None:
        if names not in ahead or not one <= other.sure(*names):
            return False
        ahead = ahead[:ahead.index(names)]
    if not isinstance(reasons, list) or len(reasons) != len(ahead):
        return False
    return all([is_reason(one, other, wanted, thing) for wanted, thing in zip(ahead, reasons)])
