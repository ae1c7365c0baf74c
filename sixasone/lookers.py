"""Checks of what shows the order; they search for nothing."""

from sixasone.cases import is_tree
from sixasone.errors import TooMany
from sixasone.trees import are_names
from sixasone.walks import joins, names_of_both

MOST_NAMES = 8


def shows_above(one, other, thing):
    """Whether any value is a tree for one and other."""
    return is_tree(one, other, thing)


def shows_apart(one, other, way, cut):
    """Whether any two values are names that join one, and others without which other is not joined."""
    if not are_names(way) or not are_names(cut) or any([name in cut for name in way]):
        return False
    return joins(one, way) and not joins(other, [name for name in other.names if name not in cut])


def link_by_link(one, other):
    """Whether other is never worse, with the least name taken out and made sure."""
    names = names_of_both(one, other)
    if not names:
        return not (one.kind == "open" and other.kind == "shut")
    name = names[0]
    if not link_by_link(one.without(name), other.without(name)):
        return False
    return link_by_link(one.sure(name), other.sure(name))


def shows_by_links(one, other):
    """Whether one <= other, by webs with names taken out and made sure alone."""
    if len(names_of_both(one, other)) > MOST_NAMES:
        raise TooMany(MOST_NAMES)
    return link_by_link(one, other)
