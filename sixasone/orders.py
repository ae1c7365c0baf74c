"""The order of webs: what shows that one is never worse than another one, or that it can be."""

from sixasone.cases import tree_of
from sixasone.cuts import cut_in
from sixasone.walks import joins
from sixasone.ways import least_ways


class Verdict:
    """What compare tells of two webs."""

    def __init__(self, told):
        self.word = told[0]
        self.told = told

    @property
    def paper(self):
        """The word and what shows it."""
        return self.told

    def __bool__(self):
        return bool(self.word == "above")

    def __eq__(self, other):
        return isinstance(other, Verdict) and self.told == other.told


class Above(Verdict):
    """The other web is never worse, as the tree shows."""

    def __init__(self, tree):
        super().__init__(("above", tree))
        self.tree = tree


class Apart(Verdict):
    """The other web can be worse: where the way is open, and the cut is shut."""

    def __init__(self, way, cut):
        super().__init__(("apart", way, cut))
        self.way = way
        self.cut = cut


def parted_by(least, other):
    """The first of the least ways of a web that is none of other, and a cut of other beside it, or None."""
    for way in least:
        if not joins(other, way):
            cut = cut_in(other, [name for name in other.names if name not in way])
            return way, tuple(sorted(set(cut)))
    return None


def compare(one, other):
    """Above with a tree for one and other, or Apart with a way of one and a cut of other."""
    pair = parted_by(least_ways(one), other)
    if pair is None:
        return Above(tree_of(one, other))
    return Apart(pair[0], pair[1])


def alike(one, other):
    """Whether each of two webs is never worse than the other one."""
    return one <= other and other <= one
