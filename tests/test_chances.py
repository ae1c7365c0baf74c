"""Points [14], [16] and [19] for the chance."""

import itertools
import random
import time
import unittest

from drawn import HIGH, LOW, T, chain, web_pairs
from plain import MeasureCase, drawn_chances, plain_chance, plain_is_tree, plain_shows, ratio
from samples import FIGURES_60, LETTERS, odd_values, sample_webs
from sixasone.cases import is_tree, mass, tree_of
from sixasone.chances import Chance
from sixasone.errors import BadValue, NoValue
from sixasone.measures import Measure
from sixasone.ratios import Ratio
from sixasone.values import Values
from sixasone.webs import Web

HALVES = Values.two((), 0, Ratio(1, 2))
BRIDGE = Web.net([("a", 0, 2), ("b", 0, 3), ("m", 2, 3), ("c", 2, 1), ("d", 3, 1)])


class ChanceTest(MeasureCase):
    def test_class(self):
        self.assertEqual(Chance.__bases__, (Measure,))
        self.assertTrue({"__init__", "__call__", "paper_of", "shows", "better", "__eq__"} <= set(vars(Chance)))
        self.same([Chance().word, Chance().good, Chance().bad], ["chance", Ratio(1), Ratio(0)])
        self.same([hasattr(Chance(), "walk_in"), hasattr(Chance(), "shut_in")], [False, False])
        self.same([Chance() == Chance(), Chance() != Chance()], [True, False])
        for odd in odd_values():
            self.same([Chance() == odd, odd == Chance()], [False, False])

    def test_better(self):
        for x, y in itertools.product([Ratio(-1), Ratio(0), Ratio(1, 2), Ratio(1), Ratio.endless()], repeat=2):
            self.same([Chance().better(x, y), Chance().better(y=x, x=y)], [x > y, y > x])

    def test_told_examples(self):
        self.same([str(Chance()(LOW, HALVES)), str(Chance()(HIGH, HALVES)), str(Chance()(BRIDGE, HALVES))],
                  ["3/8", "5/8", "1/2"])

    def test_open_and_shut(self):
        for values in (Values(), HALVES):
            self.same([Chance()(Web.always(), values), Chance().paper_of(Web.always(), values)],
                      [Ratio(1), ("cases", ("way", ()))])
            self.same([Chance()(Web.never(), values), Chance().paper_of(Web.never(), values)],
                      [Ratio(0), ("cases", ("cut", ()))])
            self.same([Chance().shows(Web.always(), values, Ratio(1), paper) for paper in
                       (("open",), ("cases", ("way", ())), ("cases", ("cut", ())), ("cases", ("way", ("a",))))],
                      [False, True, False, False])

    def test_against_all_sets_of_open_names(self):
        chance = random.Random(51)
        for web in sample_webs(80, 6):
            values = drawn_chances(chance, web)
            self.check_number(Chance(), web, values)
            paper = self.check_paper(Chance(), web, values)
            self.same(paper[0], "cases")
            if len(str(paper)) < 600:
                self.check_spoilt(Chance(), web, values, paper)

    def test_a_name_at_several_places(self):
        values = Values({"x": Ratio(1, 3), "y": Ratio(1, 2)})
        self.same([str(Chance()(web, values)) for web in (
            Web.row("x", "x"), Web.bunch("x", "x"), Web.bunch(Web.row("x", "x"), Web.row("x", "y")), Web.row("x", "y", "x"))],
            ["1/3", "1/3", "1/3", "1/6"])

    def test_missing_values(self):
        self.check_missing(Chance())

    def test_values_above_1(self):
        net = Web.net([("b", 0, 1), ("i", 5, 5), ("z", 5, 6)])
        for numbers, rest, name in (({"b": 1, "i": 2, "z": 2}, None, "i"), ({"b": Ratio(4, 3), "i": 2}, 0, "b"),
                                    ({"b": 0, "i": 0}, FIGURES_60, "z"), ({"z": Ratio(FIGURES_60, FIGURES_60 - 1)}, 1, "z")):
            values = Values(numbers)
            values.rest = rest
            for call in (Chance(), Chance().paper_of):
                self.fails(BadValue, [name], call, net, values)
            for odd in odd_values():
                self.fails(BadValue, [name], Chance().shows, net, values, odd, odd)
        # Names without a value come first; names that the web lacks may have any value.
        for call in (Chance(), Chance().paper_of):
            self.fails(NoValue, ["z"], call, net, Values({"b": 2, "i": 2}))
            self.fails(NoValue, ["b"], call, net, Values({"z": 2, "i": 2}))
        self.same(Chance()(net, Values({"b": 1, "i": 1, "z": 1, "a": 7, "zz": FIGURES_60})), Ratio(1))
        self.same(Chance()(Web.always(), Values({"b": 2})), Ratio(1))

    def test_other_trees(self):
        # These are trees for LOW and HIGH, whose mass is right for LOW, but no trees for LOW and itself.
        for tree in (T, ("ask", "d", T, T), tree_of(LOW, HIGH)):
            self.same([Chance().shows(LOW, HALVES, Ratio(3, 8), ("cases", tree)),
                       plain_shows("chance", LOW, HALVES, Ratio(3, 8), ("cases", tree))], [False, False])
        both = ("ask", "b", ("ask", "a", ("way", ("a", "b")), ("cut", ("a",))),
                ("ask", "a", ("ask", "c", ("way", ("a", "c")), ("cut", ("b", "c"))), ("cut", ("a",))))
        late = ("ask", "c", ("ask", "a", ("ask", "b", ("way", ("a", "b")), ("way", ("a", "c"))), ("cut", ("a",))),
                ("ask", "a", ("ask", "b", ("way", ("a", "b")), ("cut", ("b", "c"))), ("cut", ("a",))))
        for tree in (both, late):
            self.same(Chance().shows(LOW, HALVES, Ratio(3, 8), ("cases", tree)), True)
            self.same(Chance().shows(LOW, HALVES, Ratio(5, 8), ("cases", tree)), False)
            # A name that the web lacks changes no mass, but must not be asked.
            for lacking in (("ask", "d", tree, tree), ("ask", "zz", tree, tree)):
                self.same(Chance().shows(LOW, HALVES, Ratio(3, 8), ("cases", lacking)), False)
        for odd in (T, ("case", both), ["cases", both], ("cases", both, ()), ("cases",), ("cases", None), ("open",)):
            self.same(Chance().shows(LOW, HALVES, Ratio(3, 8), odd), False)

    def test_idle_names_may_be_asked(self):
        net = Web.net([("a", 0, 1), ("i", 5, 5)])
        tree = ("ask", "a", ("way", ("a",)), ("cut", ("a",)))
        for paper in (("cases", tree), ("cases", ("ask", "i", tree, tree)), ("cases", chain("a", ("way", ("a",))))):
            self.same(Chance().shows(net, HALVES, Ratio(1, 2), paper), True)

    def test_fourteen_places(self):
        chance = random.Random(52)
        webs = [Web.row(*[Web.bunch(*part) for part in ("abc", "def", "ghi", "jkl", "mn")]), Web.row(*"abcdefghijklmn"),
                Web.bunch(*[Web.row(*part) for part in ("abc", "def", "ghi", "jkl", "mn")])]
        for joints in (4, 6, 8):
            webs.append(Web.net([(name, *chance.sample(range(joints), 2)) for name in "abcdefghijklmn"]))
        for web in webs:
            values = Values({name: Ratio(chance.randrange(10 ** 59), 10 ** 59) for name in web.names})
            self.check_paper(Chance(), web, values)
        values = Values.two((), 0, Ratio(1, 2))
        self.same([str(Chance()(web, values)) for web in webs[:3]], ["7203/16384", "1/16384", "9181/16384"])

    def test_rows_and_bunches_of_two(self):
        pairs = [LETTERS[at:at + 2] for at in range(0, 14, 2)]
        webs = [Web.row(*[Web.bunch(*pair) for pair in pairs]), Web.bunch(*[Web.row(*pair) for pair in pairs]),
                Web.row(*[Web.bunch(*pair) for pair in pairs[:6]])]
        thirds = Values.two((), 1, Ratio(1, 3))
        unlike = Values({name: Ratio(at % 5, 4 + at // 5) for at, name in enumerate(LETTERS[:14])})
        for web in webs:
            tree = tree_of(web, web)
            self.same([is_tree(web, web, tree), plain_is_tree(web, web, tree), tree_of(web, web)], [True, True, tree])
            for values in (thirds, unlike):
                number, paper = Chance()(web, values), Chance().paper_of(web, values)
                self.same(number, ratio(plain_chance(web, values)))
                self.same([Chance().shows(web, values, number, paper), Chance().shows(web, values, number, ("cases", tree)),
                           plain_shows("chance", web, values, number, paper), mass(tree, values)], [True, True, True, number])
                self.same(Chance().shows(web, values, number + Ratio(1, 3 ** 14), paper), False)
        self.same([tree_of(webs[0], webs[1]), is_tree(webs[0], webs[1], tree_of(webs[0], webs[0])),
                   is_tree(webs[0], webs[2], tree_of(webs[0], webs[2]))], [None, False, True])

    def test_time(self):
        pairs = [LETTERS[at:at + 2] for at in range(0, 14, 2)]
        webs = [Web.row(*[Web.bunch(*pair) for pair in pairs]), Web.bunch(*[Web.row(*pair) for pair in pairs])]
        begun = time.process_time()
        for web in webs * 10:
            number, paper = Chance()(web, HALVES), Chance().paper_of(web, HALVES)
            self.same([Chance().shows(web, HALVES, number, paper), is_tree(web, web, tree_of(web, web))], [True, True])
        self.assertTrue(time.process_time() - begun < 2)

    def test_webs_that_are_never_worse(self):
        for one, other in web_pairs(60):
            names = sorted(set(one.names + other.names))
            values = Values({name: Ratio(1, 3 + at) for at, name in enumerate(names)})
            if tree_of(one, other) is not None:
                self.assertTrue(Chance()(one, values) <= Chance()(other, values))


if __name__ == "__main__":
    unittest.main()
