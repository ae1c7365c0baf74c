"""Point [21]: the order of webs."""

import itertools
import random
import unittest

from drawn import HIGH, LOW, never_worse, plain_apart, plain_pair, web_pairs
from plain import plain_is_tree, plain_joins
from samples import Case, frozen, odd_values
from sixasone.named import WORDS, measure
from sixasone.orders import Above, Apart, Verdict, alike, compare
from sixasone.partings import partings
from sixasone.ratios import Ratio
from sixasone.values import Values
from sixasone.webs import Web

A, B = "b" | ("a" & Web.link("c")), "a" & ("b" | Web.link("c"))
BRIDGE = Web.net([("a", 0, 2), ("b", 0, 3), ("m", 2, 3), ("c", 2, 1), ("d", 3, 1)])
CROSSED = Web.net([("a", 0, 2), ("b", 0, 3), ("m", 2, 3), ("d", 2, 1), ("c", 3, 1)])


class CompareTest(Case):
    def test_told_examples(self):
        self.same([B <= A, A <= B, B < A, alike("a" & Web.link("b"), "b" & Web.link("a"))], [True, False, True, True])
        self.same(compare(A, B).paper, ("apart", ("b",), ("a",)))
        self.same([BRIDGE <= CROSSED, CROSSED <= BRIDGE, compare(BRIDGE, CROSSED).paper],
                  [False, False, ("apart", ("a", "c"), ("b", "d", "m"))])

    def check(self, one, other):
        told = [frozen(one), frozen(other), one.links, other.links]
        verdict = compare(one=one, other=other)
        if never_worse(one, other):
            self.assertIs(type(verdict), Above)
            self.assertTrue(plain_is_tree(one, other, verdict.tree))
            self.same([verdict.word, bool(verdict), verdict.paper], ["above", True, ("above", verdict.tree)])
        else:
            self.assertIs(type(verdict), Apart)
            way, cut = plain_apart(one, other)
            self.same([verdict.way, verdict.cut], [way, cut])
            self.same([verdict.word, bool(verdict), verdict.paper], ["apart", False, ("apart", way, cut)])
        self.assertIsInstance(verdict, Verdict)
        self.same([compare(one, other) == verdict, compare(one, other).paper], [True, verdict.paper])
        self.same([frozen(one), frozen(other), one.links, other.links], told)
        return verdict

    def test_drawn_webs(self):
        words = [self.check(one, other).word for one, other in web_pairs(250)]
        self.assertTrue(words.count("above") > 30 and words.count("apart") > 30)

    def test_plain_webs(self):
        chance = random.Random(81)
        words = [self.check(*plain_pair(chance)).word for _ in range(120)]
        self.assertTrue(words.count("above") > 10 and words.count("apart") > 10)

    def test_open_and_shut(self):
        always, never, net = Web.always(), Web.never(), Web.net([("a", 2, 3)])
        self.same([compare(one, other).paper for one, other in itertools.product((always, never, net), repeat=2)], [
            ("above", ("way", ())), ("apart", (), ()), ("apart", (), ()), ("above", ("cut", ())), ("above", ("cut", ())),
            ("above", ("cut", ())), ("above", ("cut", ())), ("above", ("cut", ())), ("above", ("cut", ()))])
        self.same([compare(always, LOW).paper, compare(LOW, never).paper],
                  [("apart", (), ("a",)), ("apart", ("a", "b"), ())])

    def test_names_at_several_places(self):
        double, single = Web.bunch(Web.row("x", "x"), Web.row("x", "y")), Web.link("x")
        self.same([alike(double, single), compare(double, Web.link("y")).paper, compare(double, Web.row("x", "z", "z")).paper],
                  [True, ("apart", ("x",), ("y",)), ("apart", ("x",), ("z",))])
        self.same(compare(Web.link("y"), Web.bunch("x", "x")).paper, ("apart", ("y",), ("x",)))

    def test_rows_of_six_bunches(self):
        pairs = ("ab", "cd", "ef", "gh", "ij", "kl")
        one = Web.row(*[Web.bunch(*pair) for pair in pairs])
        mixed = Web.row(*[Web.bunch(*pair) for pair in ("al", "cb", "ed", "gf", "ih", "kj")])
        same = Web.row(*[Web.bunch(*pair[::-1]) for pair in pairs[::-1]])
        more = Web.row(*[Web.bunch(*pair) for pair in pairs[:5]])
        for other, wanted in ((mixed, False), (same, True), (more, True), (one, True)):
            verdict = compare(one, other)
            self.same([bool(verdict), one <= other], [wanted, wanted])
            if wanted:
                self.assertTrue(plain_is_tree(one, other, verdict.tree))
        way, cut = compare(one, mixed).way, compare(one, mixed).cut
        self.same([plain_joins(one, way), plain_joins(mixed, set("abcdefghijkl") - set(cut)), set(way) & set(cut) == set()],
                  [True, False, True])


class VerdictTest(Case):
    def test_classes(self):
        self.assertEqual([Above.__bases__, Apart.__bases__], [(Verdict,), (Verdict,)])
        above, apart = Above(("way", ())), Apart(("a",), ("b", "c"))
        self.same([above.tree, apart.way, apart.cut], [("way", ()), ("a",), ("b", "c")])
        self.same([above.word, apart.word, bool(above), bool(apart)], ["above", "apart", True, False])
        self.same([above.paper, apart.paper], [("above", ("way", ())), ("apart", ("a",), ("b", "c"))])
        self.same(Above(tree=("cut", ())).paper, ("above", ("cut", ())))
        self.same(Apart(cut=(), way=("a",)).paper, ("apart", ("a",), ()))

    def test_equal(self):
        verdicts = [Above(("way", ())), Above(("cut", ())), Apart((), ()), Apart(("a",), ()), Apart((), ("a",)),
                    Apart(("a",), ("b",))]
        for (at, one), (k, other) in itertools.product(enumerate(verdicts), repeat=2):
            self.same([one == other, one != other], [at == k, at != k])
        self.same([Above(("way", ())) == Above(("way", ())), Apart((), ()) != Apart((), ())], [True, False])
        for odd in odd_values() + [("above", ("way", ())), ("apart", (), ()), "above", True, False]:
            self.same([verdict == odd for verdict in verdicts], [False] * 6)
            self.same([odd == verdict for verdict in verdicts], [False] * 6)

    def test_attributes_stay(self):
        verdict = compare(LOW, HIGH)
        self.same([verdict.word, verdict.paper, verdict.tree], [verdict.word, ("above", verdict.tree), verdict.paper[1]])


class SignsTest(Case):
    def test_all_signs(self):
        for one, other in web_pairs(150):
            less, more = never_worse(one, other), never_worse(other, one)
            self.same([one <= other, one >= other, one < other, one > other, alike(one=one, other=other)],
                      [less, more, less and not more, more and not less, less and more])

    def test_alike_webs_need_not_be_equal(self):
        one, other = ("a" & Web.link("b")) | ("a" & Web.link("c")), "a" & (Web.link("b") | "c")
        self.same([alike(one, other), one == other, one < other, one >= other], [True, False, False, True])
        self.same([alike(Web.always(), Web.never()), alike(Web.never(), Web.net([("a", 2, 3)]))], [False, True])


class FactsTest(Case):
    """Point [21] of webs in which each name stands once."""

    def test_no_measure_tells_a_better_number_of_what_is_never_better(self):
        chance = random.Random(82)
        many = 0
        for _ in range(500):
            one, other = plain_pair(chance, 5)
            if not never_worse(one, other):
                continue
            many += 1
            for word in WORDS:
                numbers = {name: Ratio(chance.randrange(5), 4) for name in one.names + other.names}
                values = Values(numbers)
                self.same(measure(word).better(measure(word)(one, values), measure(word)(other, values)), False)
        self.assertTrue(many > 80, many)

    def test_the_way_of_compare_parts_the_webs_by_each_measure(self):
        chance = random.Random(83)
        many = 0
        for _ in range(200):
            one, other = plain_pair(chance, 5)
            if never_worse(one, other):
                continue
            many += 1
            for word, _, first, second in partings(one, other, compare(one, other).way):
                self.assertTrue(measure(word).better(first, second))
        self.assertTrue(many > 60, many)

    def test_joined_width_and_chance_with_names_at_several_places(self):
        chance = random.Random(84)
        for one, other in web_pairs(120):
            for word in ("joined", "width", "chance"):
                values = Values({name: Ratio(chance.randrange(4), 3) for name in one.names + other.names})
                is_better = measure(word).better(measure(word)(one, values), measure(word)(other, values))
                self.assertFalse(one <= other and is_better)
                if not one <= other:
                    _, _, first, second = partings(one, other, compare(one, other).way)[WORDS.index(word)]
                    self.assertTrue(measure(word).better(first, second))

    def test_several_places(self):
        # The order says nothing of length, flow and ease here.
        one, other = Web.link("x"), Web.row("x", "x")
        values = Values({"x": 1})
        self.same([alike(one, other)] + [measure(word)(one, values) == measure(word)(other, values) for word in WORDS],
                  [True, True, False, True, True, True, False])


if __name__ == "__main__":
    unittest.main()
