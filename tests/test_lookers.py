"""Stage 7: checks of what shows the order."""

import itertools
import random
import unittest

from drawn import HIGH, LOW, T, chain, never_worse, no_trees, tree_pairs, web_pairs
from plain import plain_is_tree, plain_joins
from samples import LETTERS, Case, all_name_sets, frozen, odd_values, random_net, spoilt
from sixasone.errors import TooMany
from sixasone.lookers import shows_above, shows_apart, shows_by_links
from sixasone.orders import compare
from sixasone.webs import Web

A, B = "b" | ("a" & Web.link("c")), "a" & ("b" | Web.link("c"))
TREE = ("ask", "b", ("way", ("b",)), ("ask", "a", ("ask", "c", ("way", ("a", "c")), ("cut", ("b", "c"))), ("cut", ("a",))))


def is_plain_name(thing):
    return type(thing) is str and 1 <= len(thing) <= 8 and set(thing) <= set(LETTERS) and \
        thing not in ("open", "shut", "net")


def plain_shows_apart(one, other, way, cut):
    for names in (way, cut):
        if type(names) is not tuple or not all(is_plain_name(name) for name in names):
            return False
        if list(names) != sorted(set(names)):
            return False
    return not set(way) & set(cut) and plain_joins(one, way) and not plain_joins(other, set(other.names) - set(cut))


class AboveTest(Case):
    def test_told_examples(self):
        self.same([shows_above(B, A, TREE), shows_above(A, B, TREE), shows_by_links(B, A)], [True, False, True])

    def test_trees_and_spoilt_ones(self):
        for one, other, tree in tree_pairs(40, 4):
            for thing in [tree] + spoilt(tree):
                self.same(shows_above(one=one, other=other, thing=thing), plain_is_tree(one, other, thing))

    def test_any_value(self):
        for thing in no_trees() + [T, TREE, chain("abc"), ("way", ()), ("cut", ())]:
            for one, other in ((LOW, HIGH), (A, B), (Web.never(), Web.always())):
                self.same([shows_above(one, other, thing), thing], [plain_is_tree(one, other, thing), thing])


class ApartTest(Case):
    def test_verdicts_and_other_names(self):
        for one, other in web_pairs(120, 4):
            verdict = compare(one, other)
            if not verdict:
                self.same(shows_apart(one=one, other=other, way=verdict.way, cut=verdict.cut), True)
            names = sorted(set(one.names + other.names))[:3] + ["zz"]
            for way, cut in itertools.product(all_name_sets(names), repeat=2):
                self.same(shows_apart(one, other, way, cut), plain_shows_apart(one, other, way, cut))

    def test_names_more_less_twice_in_another_order(self):
        way, cut = ("a", "c"), ("b", "d", "m")
        bridge = Web.net([("a", 0, 2), ("b", 0, 3), ("m", 2, 3), ("c", 2, 1), ("d", 3, 1)])
        crossed = Web.net([("a", 0, 2), ("b", 0, 3), ("m", 2, 3), ("d", 2, 1), ("c", 3, 1)])
        self.same(shows_apart(bridge, crossed, way, cut), True)
        for one, wanted in ((("a", "c", "z"), True), (("a", "aa", "c"), True), (("a",), False), (("c", "a"), False),
                            (("a", "a", "c"), False), (("a", "c", "m"), False), (["a", "c"], False), ("ac", False),
                            (("a", "c", "open"), False), (("a", "c", 1), False), (("a", "c", "z", "q"), False), ({}, False)):
            self.same([shows_apart(bridge, crossed, one, cut), one], [wanted, one])
        for one, wanted in ((("b", "d", "m", "z"), True), (("b", "d"), False), (("b", "m", "d"), False),
                            (("b", "d", "m", "m"), False), (("a", "b", "d", "m"), False), (["b", "d", "m"], False),
                            ("bdm", False), (("b", "d", "m", "net"), False), (("b", "d", "m", None), False), ((), False)):
            self.same([shows_apart(bridge, crossed, way, one), one], [wanted, one])

    def test_any_value(self):
        for way, cut in ((("a",), ("b",)), ((), ("a",)), ((), ())):
            for one, other in ((Web.link("a"), Web.link("b")), (Web.always(), Web.never()), (Web.always(), Web.link("a"))):
                for odd in odd_values() + spoilt(way) + spoilt(cut):
                    self.same(shows_apart(one, other, odd, cut), plain_shows_apart(one, other, odd, cut))
                    self.same(shows_apart(one, other, way, odd), plain_shows_apart(one, other, way, odd))
        for odd, other in itertools.product(odd_values(), repeat=2):
            self.same(shows_apart(LOW, HIGH, odd, other), plain_shows_apart(LOW, HIGH, odd, other))

    def test_open_and_shut(self):
        self.same([shows_apart(Web.always(), Web.never(), (), ()), shows_apart(Web.always(), Web.always(), (), ()),
                   shows_apart(Web.never(), Web.never(), (), ()), shows_apart(Web.always(), Web.link("a"), (), ("a",)),
                   shows_apart(Web.always(), Web.link("a"), (), ()), shows_apart(Web.link("a"), Web.never(), ("a",), ())],
                  [True, False, False, True, False, True])


class ByLinksTest(Case):
    def test_against_the_order(self):
        for one, other in web_pairs(150):
            told = [frozen(one), frozen(other)]
            self.same(shows_by_links(one=one, other=other), one <= other)
            self.same(shows_by_links(one, other), never_worse(one, other))
            self.same([frozen(one), frozen(other)], told)

    def test_eight_names(self):
        chance = random.Random(91)
        for _ in range(12):
            one = random_net(chance, 8, 4, LETTERS[:8])
            other = random_net(chance, 8, 4, LETTERS[:8])
            self.same(shows_by_links(one, other), never_worse(one, other))
        row = Web.row(*LETTERS[:8])
        self.same([shows_by_links(row, row), shows_by_links(row, Web.bunch(*LETTERS[:8])), shows_by_links(~row, row)],
                  [True, True, False])
        self.same(shows_by_links(Web.row(*LETTERS[:4]), Web.row(*LETTERS[4:8])), False)

    def test_more_than_eight(self):
        nine = Web.row(*LETTERS[:9])
        for one, other in ((nine, nine), (nine, Web.always()), (Web.never(), nine), (Web.link("z"), Web.row(*LETTERS[:8])),
                           (Web.row(*LETTERS[:4]), Web.row(*LETTERS[4:9]))):
            self.fails(TooMany, [8], shows_by_links, one, other)
        # Fourteen places, but few names.
        many = Web.row(*(LETTERS[:7] * 2))
        self.same([shows_by_links(many, Web.row(*LETTERS[:8])), shows_by_links(many, Web.row(*LETTERS[:7]))], [False, True])


if __name__ == "__main__":
    unittest.main()
