"""Measures, and those three of them that ask for walks.

Each measure has its methods in its own class, also where they say the same.
"""

from sixasone.places import are_finite, is_shut, is_walk, values_at
from sixasone.ratios import Ratio
from sixasone.walks import walks_of


def sum_along(worths, walk):
    """The sum of the values along a walk."""
    return Ratio.total([worths[place] for place in walk])


def least_along(worths, walk):
    """The least value along a walk."""
    return Ratio.least([worths[place] for place in walk])


def up_to(worths, number):
    """The places with values of at most a number."""
    return tuple([place for place, worth in enumerate(worths) if worth <= number])


def levels_of(web, worths, number):
    """The levels of the joints: how far they are from joint 0, and at most the number."""
    levels = {0: Ratio(0)}
    for joint in web.joints[1:]:
        levels[joint] = number
    for _ in web.joints:
        for (_, u, v), worth in zip(web.links, worths):
            levels[v] = Ratio.least([levels[v], levels[u] + worth])
            levels[u] = Ratio.least([levels[u], levels[v] + worth])
    return tuple([levels[joint] for joint in web.joints])


def are_levels(web, worths, number, thing):
    """Whether any value is levels of the joints, from 0 up to the number."""
    if not are_finite(thing, len(web.joints)):
        return False
    levels = dict(zip(web.joints, thing))
    steep = [abs(levels[u] - levels[v]) > worth for (_, u, v), worth in zip(web.links, worths)]
    return levels[0] == Ratio(0) and levels[1] == number and not any(steep)


def told_walk(paper):
    """The walk of a paper; () of the open web, None if it has none."""
    if paper[0] == "open":
        return ()
    return paper[1] if paper[0] == "way" else None


def told_shut(paper):
    """The shut places of a paper of a measure by cuts, or None if it has none."""
    if paper[0] == "cut":
        return paper[1]
    return paper[2] if len(paper) == 3 else None


class Measure:
    """What tells a number of a web and values.

    A class below it has `answer`, the number and a paper, and `admits`, whether a paper shows a
    number, both by the values of the places.
    """

    def __init__(self, word, good, bad):
        self.word = word
        self.good = good
        self.bad = bad

    def __call__(self, web, values):
        number, _ = self.answer(web, values_at(web, values))
        return number

    def paper_of(self, web, values):
        """A paper that shows the number."""
        _, paper = self.answer(web, values_at(web, values))
        return paper

    def shows(self, web, values, number, paper):
        """Whether any two values are the number and a paper that shows it."""
        return self.admits(web, values_at(web, values), number, paper)

    def better(self, x, y):
        """Whether the ratio x is better than y."""
        return x > y

    def answer(self, web, worths):
        """The number and a paper."""
        raise NotImplementedError("asked of a measure with a word")

    def admits(self, web, worths, number, paper):
        """Whether a paper shows a number."""
        raise NotImplementedError("asked of a measure with a word")

    def __eq__(self, other):
        return isinstance(other, Measure) and self.word == other.word


class ByWay(Measure):
    """A measure with a walk in its paper."""

    def walk_in(self, web, values):
        """The walk of the paper; () of the open web, None if it has none."""
        return told_walk(self.paper_of(web, values))


class ByCut(Measure):
    """A measure with shut places in its paper."""

    def shut_in(self, web, values):
        """The shut places of the paper, or None if it has none."""
        return told_shut(self.paper_of(web, values))


class Joined(ByWay, ByCut):
    """1 if some walk has values above 0 alone, otherwise 0."""

    def __init__(self):
        super().__init__("joined", Ratio(1), Ratio(0))

    def __call__(self, web, values):
        number, _ = self.answer(web, values_at(web, values))
        return number

    def paper_of(self, web, values):
        """A paper that shows the number."""
        _, paper = self.answer(web, values_at(web, values))
        return paper

    def shows(self, web, values, number, paper):
        """Whether any two values are the number and a paper that shows it."""
        return self.admits(web, values_at(web, values), number, paper)

    def better(self, x, y):
        """Whether the ratio x is better than y."""
        return x > y

    def walk_in(self, web, values):
        """The walk of the paper; () of the open web, None if it has none."""
        return told_walk(self.paper_of(web, values))

    def shut_in(self, web, values):
        """The shut places of the paper, or None if it has none."""
        return told_shut(self.paper_of(web, values))

    def answer(self, web, worths):
        """The number and a paper."""
        if web.kind == "open":
            return Ratio(1), ("open",)
        for walk in walks_of(web):
            if least_along(worths, walk) > 0:
                return Ratio(1), ("way", walk)
        return Ratio(0), ("cut", up_to(worths, Ratio(0)))

    def admits(self, web, worths, number, paper):
        """Whether a paper shows a number."""
        if web.kind == "open":
            return number == Ratio(1) and paper == ("open",)
        if not isinstance(paper, tuple) or len(paper) != 2:
            return False
        word, places = paper
        if word == "way":
            return number == Ratio(1) and is_walk(web, places) and least_along(worths, places) > 0
        if word != "cut" or number != Ratio(0) or not is_shut(web, places):
            return False
        return all([worths[place] == Ratio(0) for place in places])

    def __eq__(self, other):
        return isinstance(other, Joined)


class Length(ByWay):
    """The least sum of the values along a walk; endless without a walk."""

    def __init__(self):
        super().__init__("length", Ratio(0), Ratio(1))

    def __call__(self, web, values):
        number, _ = self.answer(web, values_at(web, values))
        return number

    def paper_of(self, web, values):
        """A paper that shows the number."""
        _, paper = self.answer(web, values_at(web, values))
        return paper

    def shows(self, web, values, number, paper):
        """Whether any two values are the number and a paper that shows it."""
        return self.admits(web, values_at(web, values), number, paper)

    def better(self, x, y):
        """Whether the ratio x is better than y."""
        return x < y

    def walk_in(self, web, values):
        """The walk of the paper; () of the open web, None if it has none."""
        return told_walk(self.paper_of(web, values))

    def answer(self, web, worths):
        """The number and a paper."""
        if web.kind == "open":
            return Ratio(0), ("open",)
        number, best = Ratio.endless(), None
        for walk in walks_of(web):
            told = sum_along(worths, walk)
            if told < number:
                number, best = told, walk
        if best is None:
            return number, ("cut", ())
        return number, ("way", best, levels_of(web, worths, number))

    def admits(self, web, worths, number, paper):
        """Whether a paper shows a number."""
        if web.kind == "open":
            return number == Ratio(0) and paper == ("open",)
        if paper == ("cut", ()):
            return number == Ratio.endless() and is_shut(web, ())
        if not isinstance(paper, tuple) or len(paper) != 3:
            return False
        word, walk, levels = paper
        if word != "way" or not is_walk(web, walk) or sum_along(worths, walk) != number:
            return False
        return are_levels(web, worths, number, levels)

    def __eq__(self, other):
        return isinstance(other, Length)


class Width(ByWay, ByCut):
    """The greatest number such that some walk has values of at least it alone."""

    def __init__(self):
        super().__init__("width", Ratio(1), Ratio(0))

    def __call__(self, web, values):
        number, _ = self.answer(web, values_at(web, values))
        return number

    def paper_of(self, web, values):
        """A paper that shows the number."""
        _, paper = self.answer(web, values_at(web, values))
        return paper

    def shows(self, web, values, number, paper):
        """Whether any two values are the number and a paper that shows it."""
        return self.admits(web, values_at(web, values), number, paper)

    def better(self, x, y):
        """Whether the ratio x is better than y."""
        return x > y

    def walk_in(self, web, values):
        """The walk of the paper; () of the open web, None if it has none."""
        return told_walk(self.paper_of(web, values))

    def shut_in(self, web, values):
        """The shut places of the paper, or None if it has none."""
        return told_shut(self.paper_of(web, values))

    def answer(self, web, worths):
        """The number and a paper."""
        if web.kind == "open":
            return Ratio.endless(), ("open",)
        number, best = Ratio(0), None
        for walk in walks_of(web):
            told = least_along(worths, walk)
            if best is None or told > number:
                number, best = told, walk
        if best is None:
            return number, ("cut", ())
        return number, ("way", best, up_to(worths, number))

    def admits(self, web, worths, number, paper):
        """Whether a paper shows a number."""
        if web.kind == "open":
            return number == Ratio.endless() and paper == ("open",)
        if paper == ("cut", ()):
            return number == Ratio(0) and is_shut(web, ())
        if not isinstance(paper, tuple) or len(paper) != 3:
            return False
        word, walk, places = paper
        if word != "way" or not is_walk(web, walk) or least_along(worths, walk) != number:
            return False
        return is_shut(web, places) and all([worths[place] <= number for place in places])

    def __eq__(self, other):
        return isinstance(other, Width)
