"""What is told of places: their values, and whether some are a walk or shut places."""

from sixasone.names import is_int
from sixasone.ratios import Ratio
from sixasone.walks import reached


def values_at(web, values):
    """The list of the values of the places; the least name without a value is told first."""
    value_by_name = {name: values[name] for name in web.names}
    return [value_by_name[link[0]] for link in web.links]


def is_place(web, thing):
    """Whether any value is a place."""
    return is_int(thing) and 0 <= thing < len(web)


def is_walk(web, thing):
    """Whether any value is a walk."""
    if not isinstance(thing, tuple):
        return False
    if web.kind == "open":
        return thing == ()
    passed = [0]
    for place in thing:
        if not is_place(web, place):
            return False
        _, u, v = web.links[place]
        if passed[-1] not in (u, v):
            return False
        joint = v if passed[-1] == u else u
        if joint in passed:
            return False
        passed.append(joint)
    return passed[-1] == 1


def is_shut(web, thing):
    """Whether any value is a tuple of shut places."""
    if web.kind == "open" or not isinstance(thing, tuple):
        return False
    if not all([is_place(web, place) for place in thing]) or list(thing) != sorted(set(thing)):
        return False
    return 1 not in reached([link for place, link in enumerate(web.links) if place not in thing], 0)


def are_finite(thing, many):
    """Whether any value is a tuple of so many ratios that are not endless."""
    if not isinstance(thing, tuple) or len(thing) != many:
        return False
    return all([isinstance(part, Ratio) and not part.is_endless for part in thing])
