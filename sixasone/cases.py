"""Trees of cases for two webs: how they are found, checked and weighed."""

from sixasone.bits import Wires, bits_of, first_within, mask_of, names_at
from sixasone.errors import BadValue
from sixasone.trees import asked_in, mass_of, rows_below, rows_of
from sixasone.walks import count_of, names_of_both, walks_of


def way_masks(web, bits):
    """The unlike masks of the ways, those of fewer names first."""
    ways_by_names = [tuple(sorted(set(count_of(web, walk)))) for walk in walks_of(web)]
    ranked = sorted(set([(len(names), mask_of(bits, names)) for names in ways_by_names]))
    return [mask for _, mask in ranked]


class Grower:
    """Grows a tree from the ways of one web, each with a way of the other one among its names."""

    def __init__(self, one, bits):
        self.bits = bits
        self.wires = Wires(one, bits)
        self.last_first = list(bits.items())[::-1]

    def tree_below(self, live, opened, shut):
        """The tree on a road with these names answered, where some ways are not yet shut.

        Names are told by masks. live has pairs of a way and the names of a way leaf; the first way
        is asked name by name, until it is open, or one of its names shuts it and others.
        """
        if not live:
            return ("cut", names_at(self.bits, self.wires.cut_within(shut)))
        way, shown = live[0]
        tree = ("way", shown)
        ahead = opened | way
        for name, bit in self.last_first:
            if bit & way and not bit & opened:
                ahead = ahead ^ bit
                left = [row for row in live if not row[0] & bit]
                tree = ("ask", name, tree, self.tree_below(left, ahead, shut | bit))
        return tree


def tree_of(one, other):
    """A tree for one and other that asks names of one alone, or None if there is none."""
    bits = bits_of(names_of_both(one, other))
    better = way_masks(other, bits)
    live = []
    for way in way_masks(one, bits):
        shown = first_within(better, way)
        if shown is None:
            return None
        live.append((way, names_at(bits, shown)))
    return Grower(one, bits).tree_below(live, 0, 0)


def are_right(one, other, rows):
    """Whether the names of all leaves show what they say of the webs."""
    bits = bits_of(names_of_both(one, other))
    worse, better = Wires(one, bits), Wires(other, bits)
    # A tree may have the same leaf at the ends of many roads.
    unlike = {leaf: True for _, _, leaf in rows}
    for word, names in unlike:
        mask = mask_of(bits, names)
        if word == "way" and not better.are_joined(mask):
            return False
        if word == "cut" and worse.are_joined(~mask):
            return False
    return True


def is_tree(one, other, thing):
    """Whether any value is a tree for one and other."""
    rows = rows_below(thing)
    return rows is not None and are_right(one, other, rows)


def leaves(tree):
    """The triples (names answered open, names answered shut, leaf), those of open trees ahead."""
    for opened, shut, leaf in rows_of(tree):
        yield (tuple(sorted(set(opened))), tuple(sorted(set(shut))), leaf)


def questions(tree):
    """How many questions a tree has."""
    return len(rows_of(tree)) - 1


def chances_of(names, values):
    """The values of ascending names, by name, if none is above 1."""
    chances = {name: values[name] for name in names}
    for name in names:
        if chances[name] > 1:
            raise BadValue(name)
    return chances


def mass(tree, values):
    """The sum of the products of the chances along the roads to way leaves."""
    return mass_of(tree, chances_of(asked_in(rows_of(tree)), values))
