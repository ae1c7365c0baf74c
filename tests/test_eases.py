"""Points [14], [15] and [16] for the ease."""

import itertools
import random
import unittest
from fractions import Fraction

from plain import MeasureCase, plain_shows, ratio
from samples import FIGURES_60, drawn_values, odd_values, sample_webs, worths_of
from sixasone.eases import Ease
from sixasone.measures import Measure
from sixasone.ratios import Ratio
from sixasone.values import Values
from sixasone.webs import Web

BRIDGE = Web.net([("a", 0, 2), ("b", 0, 3), ("m", 2, 3), ("c", 2, 1), ("d", 3, 1)])
EASES = Values({"a": 2, "b": 1, "c": 1, "d": 2, "m": 1})
ENDLESS = Ratio.endless()


def balanced(web, values):
    """The ease by solving the balance of all joints, those that nothing joins to the ends set to 0."""
    worths = worths_of(web, values)
    rows = []
    for joint in web.joints[2:]:
        row = {other: Fraction(0) for other in web.joints}
        for (_, u, v), worth in zip(web.links, worths):
            if joint in (u, v) and u != v:
                row[joint] += worth
                row[v if u == joint else u] -= worth
        rows.append([row[other] for other in web.joints[2:]] + [-row[0]])
    many, height = len(rows), {0: Fraction(1), 1: Fraction(0)}
    fixed = []
    for column in range(many):
        pivot = [row for row in rows if row[column] != 0]
        if not pivot:
            fixed.append([Fraction(0)] * column + [Fraction(1)] + [Fraction(0)] * (many - column))
            continue
        rows.remove(pivot[0])
        fixed.append([part / pivot[0][column] for part in pivot[0]])
        rows = [[part - row[column] * first for part, first in zip(row, fixed[-1])] for row in rows]
    solved = [Fraction(0)] * many
    for column in reversed(range(many)):
        solved[column] = fixed[column][-1] - sum(fixed[column][k] * solved[k] for k in range(column + 1, many))
    height.update(zip(web.joints[2:], solved))
    return ratio(Fraction(sum(worth * (height[u] - height[v]) * ((u == 0) - (v == 0))
                              for (_, u, v), worth in zip(web.links, worths))))


class EaseTest(MeasureCase):
    def test_told_examples(self):
        self.same([str(Ease()(BRIDGE, EASES)), [str(n) for n in Ease().paper_of(BRIDGE, EASES)[2]]],
                  ["7/5", ["1", "0", "3/5", "2/5"]])

    def test_class(self):
        self.assertEqual(Ease.__bases__, (Measure,))
        self.assertTrue({"__init__", "__call__", "paper_of", "shows", "better", "__eq__"} <= set(vars(Ease)))
        self.same([Ease().word, Ease().good, Ease().bad], ["ease", Ratio(1), Ratio(0)])
        self.same([hasattr(Ease(), "walk_in"), hasattr(Ease(), "shut_in")], [False, False])
        self.same([Ease() == Ease(), Ease() != Ease()], [True, False])
        for odd in odd_values():
            self.same([Ease() == odd, odd == Ease()], [False, False])

    def test_better(self):
        for x, y in itertools.product([Ratio(-1), Ratio(0), Ratio(1, 2), Ratio(1), ENDLESS], repeat=2):
            self.same([Ease().better(x, y), Ease().better(y=x, x=y)], [x > y, y > x])

    def test_open_and_shut(self):
        for values in (Values(), EASES):
            self.same([Ease()(Web.always(), values), Ease().paper_of(Web.always(), values)], [ENDLESS, ("open",)])
            self.same([Ease()(Web.never(), values), Ease().paper_of(Web.never(), values)],
                      [Ratio(0), ("stream", (), (Ratio(1), Ratio(0)))])
        for paper in (("stream", (), (Ratio(1), Ratio(1))), ("stream", (), ()), ["open"], ("open", ())):
            self.same(Ease().shows(Web.always(), EASES, ENDLESS, paper), False)
        self.same(Ease().shows(Web.never(), EASES, Ratio(0), ("open",)), False)

    def test_against_trees_of_links(self):
        chance = random.Random(31)
        for web in sample_webs(80, 6):
            values = drawn_values(chance, web)
            self.check_number(Ease(), web, values)
            paper = self.check_paper(Ease(), web, values)
            self.check_spoilt(Ease(), web, values, paper)

    def test_missing_values(self):
        self.check_missing(Ease())

    def test_rows_and_bunches(self):
        values = Values({"x": 2, "y": 3})
        self.same([str(Ease()(web, values)) for web in (
            Web.row("x", "x"), Web.bunch("x", "x"), Web.row("x", "y"), Web.bunch("x", "y"), Web.row("x", "x", "x") | "y")],
            ["1", "4", "6/5", "5", "11/3"])

    def test_the_value_0_lets_nothing_through(self):
        zeros = Values.two((), 0, 0)
        self.same([Ease()(BRIDGE, zeros), Ease()(BRIDGE, Values.two(["a", "d"], 1, 0))], [Ratio(0), Ratio(0)])
        self.same(Ease()(BRIDGE, Values.two(["a", "d", "m"], 1, 0)), Ratio(1, 3))
        # Behind m nothing holds the joint 3; its height may be any.
        some = Values.two(["a", "c"], 1, 0)
        for level in (Ratio(0), Ratio(-9, 2), Ratio(FIGURES_60)):
            half = Ratio(1, 2)
            streams = (half, Ratio(0), -half, Ratio(0), Ratio(0))
            paper = ("stream", streams, (Ratio(1), Ratio(0), half, level))
            self.same(Ease().shows(BRIDGE, some, half, paper), True)
            paper = ("stream", streams, (Ratio(1), Ratio(0), level, half))
            self.same(Ease().shows(BRIDGE, some, half, paper), False)

    def test_pieces_that_touch_no_end(self):
        net = Web.net([("a", 0, 1), ("b", 2, 3), ("b", 3, 4), ("c", 5, 5), ("d", 0, 6), ("d", 7, 1)])
        values = Values.two((), 1, 2)
        zeros = (Ratio(0),) * 5
        # Joints 2, 3 and 4 are one piece, 5 is one; 6 hangs on 0, 7 on 1.
        for heights, wanted in (((1, 0, 0, 0, 0, 0, 1, 0), True), ((1, 0, 7, 7, 7, -3, 1, 0), True),
                                ((1, 0, 7, 7, 6, -3, 1, 0), False), ((1, 0, 0, 0, 0, 0, 0, 0), False),
                                ((1, 0, 0, 0, 0, 0, 1, 1), False), ((2, 1, 0, 0, 0, 0, 2, 1), False),
                                ((1, 0, 0, 0, 0, 1, 0), False), ((1, 0, 0, 0, 0, 0, 1, 0, 0), False)):
            paper = ("stream", (Ratio(2),) + zeros, tuple(Ratio(height) for height in heights))
            self.same(Ease().shows(net, values, Ratio(2), paper), wanted)
        self.check_paper(Ease(), net, values)
        ring = Web.net([("a", 0, 1), ("b", 2, 3), ("c", 3, 4), ("d", 2, 4)])
        flat = (Ratio(1), Ratio(0), Ratio(5), Ratio(5), Ratio(5))
        for parts, wanted in (((2, 0, 0, 0), True), ((2, 1, 1, -1), False), ((2, -2, -2, 2), False)):
            paper = ("stream", tuple(Ratio(part) for part in parts), flat)
            self.same(Ease().shows(ring, values, Ratio(2), paper), wanted)

    def test_streams_that_are_not_balanced(self):
        row = Web.row("a", "b")
        ones = Values.two((), 1, 1)
        for twice in range(-1, 4):
            height = Ratio(twice, 2)
            paper = ("stream", (1 - height, -height), (Ratio(1), Ratio(0), height))
            self.same(Ease().shows(row, ones, Ratio(1, 2), paper), twice == 1)
            self.same(plain_shows("ease", row, ones, Ratio(1, 2), paper), twice == 1)

    def test_sixty_figures(self):
        values = Values({"a": FIGURES_60, "b": Ratio(1, FIGURES_60), "c": FIGURES_60 - 1, "d": Ratio(2, 3), "m": 7})
        self.check_number(Ease(), BRIDGE, values)
        self.check_paper(Ease(), BRIDGE, values)

    def test_fourteen_places(self):
        chance = random.Random(33)
        webs = [Web.row(*[Web.bunch(*part) for part in ("abc", "def", "ghi", "jkl", "mn")]), Web.row(*"abcdefghijklmn")]
        for joints in (4, 5, 6, 8, 11):
            webs.append(Web.net([(name, chance.randrange(joints), chance.randrange(joints)) for name in "abcdefghijklmn"]))
        for web in webs:
            worths = {name: Ratio(chance.randrange(10 ** 59), 10 ** 58 + at) for at, name in enumerate(web.names)}
            self.same(Ease()(web, Values(worths)), balanced(web, Values(worths)))
            self.check_paper(Ease(), web, Values(worths))


if __name__ == "__main__":
    unittest.main()
