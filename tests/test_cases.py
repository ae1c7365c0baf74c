"""Points [17], [18] and [19]: trees of cases."""

import itertools
import random
import types
import unittest

from drawn import HIGH, LOW, T, chain, never_worse, no_trees, tree_pairs, web_pairs
from plain import drawn_chances, plain_chance, plain_is_tree, plain_mass, plain_rows, ratio
from samples import FIGURES_60, Case, frozen, odd_values, spoilt
from sixasone.cases import is_tree, leaves, mass, questions, tree_of
from sixasone.errors import BadTree, BadValue, NoValue
from sixasone.ratios import Ratio
from sixasone.values import Values
from sixasone.webs import Web

HALVES = Values.two((), 0, Ratio(1, 2))
FOURTEEN = "abcdefghijklmn"


def full(names, opened=()):
    """The tree that asks all names on each road."""
    if not names:
        return ("way", opened)
    return ("ask", names[0], full(names[1:], opened + (names[0],)), full(names[1:], opened))


class TreeOfTest(Case):
    def test_told_example(self):
        self.same(is_tree(LOW, HIGH, tree_of(LOW, HIGH)), True)
        self.same([is_tree(LOW, HIGH, T), is_tree(HIGH, LOW, T), tree_of(HIGH, LOW)], [True, False, None])

    def test_trees_of_drawn_webs(self):
        none = 0
        for one, other in web_pairs(200):
            before = [frozen(one), frozen(other), one.links, other.links]
            tree = tree_of(one=one, other=other)
            self.same(tree is not None, never_worse(one, other))
            none += tree is None
            if tree is not None:
                self.same([plain_is_tree(one, other, tree), is_tree(one, other, tree)], [True, True])
                asked = {name for opened, shut, _ in plain_rows(tree) for name in opened + shut}
                self.assertTrue(asked <= set(one.names + other.names))
                self.same(tree_of(one, other), tree)
            self.same([frozen(one), frozen(other), one.links, other.links], before)
        self.assertTrue(30 < none < 190, none)

    def test_open_and_shut(self):
        self.same([tree_of(Web.always(), Web.always()), tree_of(Web.never(), Web.never()),
                   tree_of(Web.always(), Web.never())], [("way", ()), ("cut", ()), None])
        self.same([is_tree(Web.link("a"), Web.always(), tree_of(Web.link("a"), Web.always())),
                   tree_of(Web.always(), Web.link("a")), tree_of(Web.link("a"), Web.link("b")),
                   tree_of(Web.net([("a", 2, 3)]), Web.never())], [True, None, None, ("cut", ())])

    def test_fourteen_names(self):
        chance = random.Random(42)
        for joints in (4, 5, 6, 7, 8):
            web = Web.net([(name, *chance.sample(range(joints), 2)) for name in FOURTEEN])
            better = Web.net(list(web.links[:-1]) + [(web.links[-1][0], 0, 1)])
            self.same([is_tree(web, web, tree_of(web, web)), is_tree(web, better, tree_of(web, better))], [True, True])


class IsTreeTest(Case):
    def test_trees_with_one_part_changed(self):
        for one, other, tree in tree_pairs(60, 4):
            for thing in [tree] + spoilt(tree):
                self.same([is_tree(one, other, thing=thing), thing], [plain_is_tree(one, other, thing), thing])

    def test_any_value(self):
        webs = (Web.always(), Web.never(), LOW, HIGH, Web.link("a"))
        for one, other in itertools.product(webs, repeat=2):
            for thing in no_trees() + [("way", ()), ("cut", ()), T, chain("abc"), chain("ab", ("cut", ()))]:
                self.same([is_tree(one, other, thing), thing], [plain_is_tree(one, other, thing), thing])
            for thing in no_trees():
                self.same([is_tree(one, other, thing), thing], [False, thing])

    def test_names_that_the_webs_lack(self):
        for tree, wanted in ((("ask", "zz", T, T), True), (("ask", "way", T, ("cut", ())), False),
                             (("ask", "zz", T, ("cut", ("zz",))), False),
                             (("ask", "a", ("ask", "q", T[2], T[2]), ("cut", ("a",))), True),
                             (("ask", "a", ("ask", "b", ("way", ("a", "b")), T[2][3]), ("cut", ("a",))), True)):
            self.same([is_tree(LOW, HIGH, tree), plain_is_tree(LOW, HIGH, tree)], [wanted, wanted])

    def test_fourteen_and_fifteen_questions(self):
        row, part, lacking = Web.row(*FOURTEEN), Web.row(*FOURTEEN[:11]), chain(FOURTEEN[:11])
        for name in "xyz":
            lacking = ("ask", name, lacking, lacking)
        self.same([is_tree(row, row, chain(FOURTEEN, ("way", tuple(FOURTEEN)))), is_tree(row, Web.always(), chain(FOURTEEN)),
                   is_tree(row, Web.always(), chain(FOURTEEN + "o")), is_tree(row, Web.always(), chain("o" + FOURTEEN)),
                   is_tree(part, Web.always(), lacking), is_tree(part, Web.always(), ("ask", "q", lacking, lacking))],
                  [True, True, False, False, True, False])

    def test_leaves_may_hold_more_or_fewer_names(self):
        web = Web.link("a")
        for names, wanted in (((), False), (("a",), True), (("a", "b"), True), (("b",), False)):
            tree = ("ask", "a", ("ask", "b", ("way", names), ("way", ("a",))), ("cut", ("a",)))
            self.same(is_tree(web, web, tree), wanted)
            tree = ("ask", "a", ("way", ("a",)), ("ask", "b", ("cut", ("a",)), ("cut", names)))
            self.same(is_tree(web, web, tree), wanted)

    def test_many_leaves(self):
        tree = full(tuple(FOURTEEN))
        self.same([is_tree(Web.row(*FOURTEEN), Web.always(), tree), questions(tree), len(list(leaves(tree)))],
                  [True, 2 ** 14 - 1, 2 ** 14])
        self.same(is_tree(Web.row(*FOURTEEN), Web.bunch(*FOURTEEN), tree), False)
        self.same(mass(tree, HALVES), Ratio(1))


class LeavesTest(Case):
    def test_told_example(self):
        self.same(list(leaves(T))[1], (("a", "c"), ("b",), ("way", ("a", "c"))))
        self.same([questions(T), len(list(leaves(T)))], [3, 4])

    def test_all_leaves(self):
        self.assertIsInstance(leaves(T), types.GeneratorType)
        tree = ("ask", "c", ("ask", "a", ("way", ("a",)), T[3][:1] + (("a",),)), ("ask", "b", ("way", ()), ("cut", ("b", "c"))))
        self.same(list(leaves(tree=tree)), [
            (("a", "c"), (), ("way", ("a",))), (("c",), ("a",), ("cut", ("a",))),
            (("b",), ("c",), ("way", ())), ((), ("b", "c"), ("cut", ("b", "c")))])
        self.same([list(leaves(("way", ()))), questions(tree=("cut", ()))], [[((), (), ("way", ()))], 0])
        for _, _, tree in tree_pairs(60):
            rows = [(tuple(sorted(opened)), tuple(sorted(shut)), leaf) for opened, shut, leaf in plain_rows(tree)]
            self.same([list(leaves(tree)), questions(tree)], [rows, len(rows) - 1])

    def test_no_trees(self):
        for thing in no_trees():
            self.fails(BadTree, [], questions, thing)
            self.fails(BadTree, [], lambda: next(leaves(thing)))
            self.fails(BadTree, [], mass, thing, Values())
            self.fails(BadTree, [], mass, thing, Values({"a": 2}))


class MassTest(Case):
    def test_told_example(self):
        self.same([mass(T, HALVES), mass(tree=tree_of(HIGH, HIGH), values=HALVES)], [Ratio(3, 8), Ratio(5, 8)])

    def test_by_roads(self):
        chance = random.Random(43)
        for one, other, tree in tree_pairs(80):
            values = drawn_chances(chance, Web.bunch(one, other))
            asked = {name for opened, shut, _ in plain_rows(tree) for name in opened + shut}
            if asked <= set(values.names) or values.rest is not None:
                told = frozen(values)
                found = mass(tree, values)
                self.same([found, frozen(values)], [plain_mass(tree, values), told])
                self.same(mass(tree, values), found)

    def test_between_the_chances(self):
        chance = random.Random(44)
        for one, other, tree in tree_pairs(60):
            values = Values({name: Ratio(chance.randrange(5), 4) for name in "abcde"})
            told = mass(tree, values)
            self.assertTrue(ratio(plain_chance(one, values)) <= told <= ratio(plain_chance(other, values)))
            if one == other:
                self.same(told, ratio(plain_chance(one, values)))

    def test_sixty_figures(self):
        values = Values({"a": Ratio(1, FIGURES_60), "b": Ratio(FIGURES_60 - 1, FIGURES_60), "c": 1})
        self.same(mass(T, values), Ratio(1, FIGURES_60))

    def test_missing_and_great_values(self):
        for values, error, name in (
                (Values(), NoValue, "a"), (Values({"a": 2, "c": 2}), NoValue, "b"), (Values({"a": 0, "b": 5}), NoValue, "c"),
                (Values({"a": 1, "b": Ratio(4, 3), "c": 2}), BadValue, "b"), (Values({"a": 0, "b": 0, "c": 2}), BadValue, "c"),
                (Values.two(["b", "c"], 0, FIGURES_60), BadValue, "a")):
            self.fails(error, [name], mass, T, values)
        self.same(mass(T, Values({"a": 1, "b": 1, "c": 1, "d": 9})), Ratio(1))
        self.same(mass(("way", ()), Values({"a": 7})), Ratio(1))
        # Names are asked in any order; the least one is told.
        swapped = ("ask", "z", ("ask", "b", ("way", ()), ("cut", ())), ("cut", ()))
        self.fails(NoValue, ["b"], mass, swapped, Values())
        self.fails(NoValue, ["z"], mass, swapped, Values({"b": 9}))
        self.fails(BadValue, ["b"], mass, swapped, Values({"b": 9, "z": 9}))


if __name__ == "__main__":
    unittest.main()
