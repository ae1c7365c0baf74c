"""Papers that a tree of cases carries from one web to another one."""

from sixasone.cases import is_tree
from sixasone.errors import BadHeights, BadStream, BadTree
from sixasone.places import are_finite
from sixasone.plains import check_plain
from sixasone.ratios import Ratio, common_bottom
from sixasone.streams import apart, is_stream, steps_of
from sixasone.trees import check_tree, leaf_at, leaf_without
from sixasone.walks import count_of, holds, reached, walks_of


def carry_way(tree, names):
    """The names of the way leaf to which open names lead, or None."""
    check_tree(tree)
    word, told = leaf_at(tree, names)
    return told if word == "way" else None


def carry_cut(tree, names):
    """The names of the cut leaf to which shut names lead, or None."""
    check_tree(tree)
    word, told = leaf_without(tree, names)
    return told if word == "cut" else None


def check_carrier(tree, one, other):
    """Raises an error unless the webs are plain and the tree is one for them."""
    check_plain(one, other)
    if not is_tree(one, other, tree):
        raise BadTree()


def carry_stream(tree, one, other, streams):
    """A stream of other with the same amount, that bears at each name at most what it bears in one."""
    check_carrier(tree, one, other)
    if not is_stream(one, streams):
        raise BadStream()
    roads = [(count_of(other, walk), walk) for walk in walks_of(other)]
    carried = [Ratio(0) for _ in other.links]
    for walk, part in apart(one, streams):
        _, names = leaf_at(tree, count_of(one, walk))
        better = [road for count, road in roads if holds(names, count)][0]
        for place, way in steps_of(other, better):
            carried[place] = carried[place] + way * part
    return tuple(carried)


def are_heights(web, thing):
    """Whether any value is heights of a web."""
    if not are_finite(thing, len(web.joints)):
        return False
    return web.kind != "open" or thing[0] == thing[1]


def near_side(one, cut):
    """The joints that are still reached from joint 0 without the names of a cut."""
    return list(reached([link for link in one.links if link[0] not in cut], 0))


def carried_levels(tree, one, other, levels):
    """By joint of one: levels that are carried from other, where joint 0 is not below joint 1."""
    carried = {joint: levels[1] for joint in one.joints}
    between = [level for level in sorted(set(list(levels.values()))) if levels[1] <= level <= levels[0]]
    for low, high in zip(between, between[1:]):
        across = [name for name, u, v in other.links if (levels[u] >= high) != (levels[v] >= high)]
        _, cut = leaf_without(tree, across)
        for joint in near_side(one, cut):
            carried[joint] = carried[joint] + high - low
    return carried


def carry_heights(tree, one, other, heights):
    """Heights of one with the same ends, where each name falls by at most what it falls in other."""
    check_carrier(tree, one, other)
    if not are_heights(other, heights):
        raise BadHeights()
    # Whole numbers can be sorted; with signs exchanged a rise is a fall.
    bottom = common_bottom(heights)
    sign = 1 if heights[0] >= heights[1] else -1
    levels = {}
    for joint, height in zip(other.joints, heights):
        levels[joint] = sign * height.top * (bottom // height.bottom)
    carried = carried_levels(tree, one, other, levels)
    return tuple([Ratio(sign * carried[joint], bottom) for joint in one.joints])
