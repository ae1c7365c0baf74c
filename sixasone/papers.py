"""The rules of the order on trees alone; no web is looked at."""

from sixasone.errors import BadTree
from sixasone.trees import MOST_ASKED, asked_in, check_tree, leaf_at, rows_of


def led(tree, second):
    """The tree with the leaves to which a second one leads in the place of way leaves."""
    if tree[0] == "ask":
        return ("ask", tree[1], led(tree[2], second), led(tree[3], second))
    if tree[0] == "cut":
        return tree
    leaf = leaf_at(second, tree[1])
    if leaf[0] == "cut":
        raise BadTree()
    return leaf


def through(first, second):
    """A tree for (one, three), from those for (one, two) and (two, three)."""
    check_tree(first, second)
    return led(first, second)


def exchanged(tree):
    """The tree with open and shut, ways and cuts exchanged."""
    if tree[0] == "ask":
        return ("ask", tree[1], exchanged(tree[3]), exchanged(tree[2]))
    return ("cut" if tree[0] == "way" else "way", tree[1])


def turned(tree):
    """A tree for (~other, ~one), from one for (one, other)."""
    check_tree(tree)
    return exchanged(tree)


def with_more(tree, word, names):
    """The tree with names added in each leaf with a word."""
    if tree[0] == "ask":
        return ("ask", tree[1], with_more(tree[2], word, names), with_more(tree[3], word, names))
    return (word, tuple(sorted(set(tree[1] + names)))) if tree[0] == word else tree


def grafted(tree, word, second):
    """The tree with a second one in the place of each leaf with a word."""
    if tree[0] == "ask":
        return ("ask", tree[1], grafted(tree[2], word, second), grafted(tree[3], word, second))
    return with_more(second, word, tree[1]) if tree[0] == word else tree


def joint_tree(first, second, word):
    """A tree of two, the second one standing in the place of each leaf of the first one with a word."""
    begun = [opened + shut for opened, shut, leaf in rows_of(first) if leaf[0] == word]
    rows = rows_of(second)
    names = asked_in(rows)
    longest = max([len(opened + shut) for opened, shut, _ in rows])
    # What comes may be far greater than both; so its roads are checked before it is made.
    for road in begun:
        if len(road) + longest > MOST_ASKED or any([name in names for name in road]):
            raise BadTree()
    return grafted(first, word, second)


def beside(first, second):
    """A tree for (one | one2, other | other2), from those for (one, other) and (one2, other2)."""
    return joint_tree(first, second, "cut")


def behind(first, second):
    """A tree for (one & one2, other & other2), from those for (one, other) and (one2, other2)."""
    return joint_tree(first, second, "way")


def answered(tree, name, is_open):
    """The tree without the questions for a name, and with the name left out of the leaves."""
    if tree[0] != "ask":
        return (tree[0], tuple([each for each in tree[1] if each != name]))
    if tree[1] == name:
        return answered(tree[2] if is_open else tree[3], name, is_open)
    return ("ask", tree[1], answered(tree[2], name, is_open), answered(tree[3], name, is_open))


def fixed(tree, name, is_open):
    """A tree for the webs with the name made sure, or without it."""
    check_tree(tree)
    return answered(tree, name, is_open)
