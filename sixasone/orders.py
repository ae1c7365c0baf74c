"""The order of webs: what shows that one is never worse than another one, or that it can be."""

from sixasone.cases import tree_of
from sixasone.cuts import cut_list
from sixasone.walks import joins
from sixasone.ways import least_ways


class Verdict:
    """What compare tells of two webs."""

    def __init__(self, told):
        self.word = told[0]
        self.told = told

    @property
    def paper(self):
        """The word and what shows it."""
        return self.told

    def __bool__(self):
        return bool(self.word == "above")

    def __eq__(self, other):
        return isinstance(other, Verdict) and self.told == other.told


class Above(Verdict):
    """The other web is never worse, as the tree shows."""

    def __init__(self, tree):
        super().__init__(("above", tree))
        self.tree = tree


class Apart(Verdict):
    """The other web can be worse: where the way is open, and the cut is shut."""

    def __init__(self, way, cut):
        super().__init__(("apart", way, cut))
        self.way = way
        self.cut = cut


def compare(one, other):
    """Above with a tree for one and other, or Apart with a way of one and a cut of other."""
    if one <= other:
        return Above(tree_of(one, other))
    way = [each for each in least_ways(one) if not joins(other, each)][0]
    cut = [each for each in cut_list(other) if not any([name in way for name in each])][0]
    return Apart(way, tuple(sorted(set(cut))))


def alike(one, other):
    """Whether each of two webs is never worse than the other one."""
    return one <= other and other <= one
