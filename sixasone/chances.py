"""Chance: how likely it is that the ends are joined."""

from sixasone.cases import are_right, chances_of, tree_of
from sixasone.measures import Measure
from sixasone.ratios import Ratio
from sixasone.trees import asked_in, mass_of, rows_below
from sixasone.walks import holds


class Chance(Measure):
    """The chance that some walk has open names alone.

    A name is open at all its places or at none; so this asks for the values of names, not of places.
    """

    def __init__(self):
        super().__init__("chance", Ratio(1), Ratio(0))

    def __call__(self, web, values):
        number, _ = self.answer(web, chances_of(web.names, values))
        return number

    def paper_of(self, web, values):
        """A paper that shows the number."""
        _, paper = self.answer(web, chances_of(web.names, values))
        return paper

    def shows(self, web, values, number, paper):
        """Whether any two values are the number and a paper that shows it."""
        return self.admits(web, chances_of(web.names, values), number, paper)

    def better(self, x, y):
        """Whether the ratio x is better than y."""
        return x > y

    def answer(self, web, worths):
        """The number and a paper."""
        tree = tree_of(web, web)
        return mass_of(tree, worths), ("cases", tree)

    def admits(self, web, worths, number, paper):
        """Whether a paper shows a number."""
        if not isinstance(paper, tuple) or len(paper) != 2:
            return False
        word, tree = paper
        rows = rows_below(tree) if word == "cases" else None
        if rows is None or not holds(web.names, asked_in(rows)) or not are_right(web, web, rows):
            return False
        return mass_of(tree, worths) == number

    def __eq__(self, other):
        return isinstance(other, Chance)
