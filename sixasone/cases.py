"""Trees of cases for two webs: how they are found, checked and weighed."""

from sixasone.cuts import least_cuts
from sixasone.errors import BadValue
from sixasone.trees import asked_in, mass_of, rows_below, rows_of
from sixasone.walks import holds, is_never_worse, joins
from sixasone.ways import least_ways


def first_held(counts, names):
    """The first of some counts all of whose names are among names."""
    return [count for count in counts if holds(names, count)][0]


def grown(live, shut, parting):
    """The tree that goes on where some ways are not yet shut.

    live has for each such way its names that are not yet answered, and the names of a way leaf;
    shut are the names answered shut, parting the cuts for cut leaves.
    """
    if not live:
        return ("cut", first_held(parting, shut))
    waiting, shown = live[0]
    if not waiting:
        return ("way", shown)
    name = waiting[0]
    opened = [(tuple([each for each in names if each != name]), leaf) for names, leaf in live]
    left = [(names, leaf) for names, leaf in live if name not in names]
    return ("ask", name, grown(opened, shut, parting), grown(left, shut + (name,), parting))


def tree_of(one, other):
    """A tree for one and other that asks names of one alone, or None if there is none."""
    if not is_never_worse(one, other):
        return None
    better = least_ways(other)
    return grown([(way, first_held(better, way)) for way in least_ways(one)], (), least_cuts(one))


def is_right_leaf(one, other, word, names):
    """Whether the names of a leaf show what it says of the webs."""
    if word == "way":
        return joins(other, names)
    return not joins(one, [name for name in one.names if name not in names])


def is_tree(one, other, thing):
    """Whether any value is a tree for one and other."""
    rows = rows_below(thing, (), ())
    if rows is None:
        return False
    # A tree may have the same leaf at the ends of many roads.
    unlike = sorted(set([leaf for _, _, leaf in rows]))
    return all([is_right_leaf(one, other, word, names) for word, names in unlike])


def leaves(tree):
    """The triples (names answered open, names answered shut, leaf), those of open trees ahead."""
    yield from rows_of(tree)


def questions(tree):
    """How many questions a tree has."""
    return len(rows_of(tree)) - 1


def chances_of(names, values):
    """The values of ascending names, by name, if none is above 1."""
    chances = {name: values[name] for name in names}
    for name in names:
        if chances[name] > 1:
            raise BadValue(name)
    return chances


def mass(tree, values):
    """The sum of the products of the chances along the roads to way leaves."""
    return mass_of(tree, chances_of(asked_in(rows_of(tree)), values))
