"""Trees of cases by themselves: their form, their roads and their leaves."""

from sixasone.errors import BadTree
from sixasone.names import is_name
from sixasone.ratios import Ratio
from sixasone.walks import holds

MOST_ASKED = 14


def are_names(thing):
    """Whether any value is an ascending tuple of unlike names."""
    if not isinstance(thing, tuple) or not all([is_name(name) for name in thing]):
        return False
    return list(thing) == sorted(set(thing))


def is_leaf(thing, opened, shut):
    """Whether a tuple is a leaf on a road with these names answered open and shut."""
    if len(thing) != 2 or thing[0] not in ("way", "cut") or not isinstance(thing[1], tuple):
        return False
    # What a road has answered are names.
    if not holds(opened if thing[0] == "way" else shut, thing[1]):
        return False
    return list(thing[1]) == sorted(set(thing[1]))


def is_question(thing, asked):
    """Whether a tuple asks a name that a road has not asked yet, and may ask."""
    if len(thing) != 4 or thing[0] != "ask" or not is_name(thing[1]):
        return False
    return thing[1] not in asked and len(asked) < MOST_ASKED


def rows_below(thing):
    """The triples (names answered open, shut, leaf) of any value, as the roads go, or None if it is no tree."""
    rows = []
    waiting = [(thing, (), ())]
    while waiting:
        here, opened, shut = waiting.pop()
        if not isinstance(here, tuple):
            return None
        if is_question(here, opened + shut):
            _, name, first, second = here
            waiting.append((second, opened, shut + (name,)))
            waiting.append((first, opened + (name,), shut))
        elif is_leaf(here, opened, shut):
            rows.append((opened, shut, here))
        else:
            return None
    return rows


def rows_of(tree):
    """The triples of all leaves of a tree, those of open trees ahead."""
    rows = rows_below(tree)
    if rows is None:
        raise BadTree()
    return rows


def check_tree(*trees):
    """Raises BadTree if one of any values is no tree."""
    for tree in trees:
        rows_of(tree)


def asked_in(rows):
    """The ascending list of the names that a tree with these triples asks."""
    return sorted(set([name for opened, shut, _ in rows for name in opened + shut]))


def leaf_at(tree, names):
    """The leaf to which a tree leads if just these names are open."""
    here = tree
    while here[0] == "ask":
        here = here[2] if here[1] in names else here[3]
    return here


def leaf_without(tree, names):
    """The leaf to which a tree leads if just these names are shut."""
    here = tree
    while here[0] == "ask":
        here = here[3] if here[1] in names else here[2]
    return here


def mass_times(tree, worths, many):
    """The mass of a tree times a whole number, which the bottoms of all values on a road divide."""
    if tree[0] != "ask":
        return many if tree[0] == "way" else 0
    worth = worths[tree[1]]
    rest = many // worth.bottom
    opened = worth.top * mass_times(tree[2], worths, rest)
    return opened + (worth.bottom - worth.top) * mass_times(tree[3], worths, rest)


def mass_of(tree, worths):
    """The mass of a tree, by the values of all names that it asks."""
    many = 1
    for name in worths:
        many = many * worths[name].bottom
    return Ratio(mass_times(tree, worths, many), many)
