"""Point [20]: the rules of the order on trees alone."""

import itertools
import random
import unittest

from drawn import HIGH, LOW, T, chain, no_trees, plain_pair, tree_pairs
from plain import plain_chance, plain_is_tree, plain_rows, ratio
from samples import LETTERS, Case, frozen, odd_values
from sixasone.cases import is_tree, leaves, mass, questions, tree_of
from sixasone.errors import BadTree
from sixasone.papers import behind, beside, fixed, through, turned
from sixasone.ratios import Ratio
from sixasone.values import Values
from sixasone.webs import Web

TURNED = ("ask", "a", ("way", ("a",)),
          ("ask", "b", ("ask", "c", ("way", ("b", "c")), ("cut", ("a", "c"))), ("cut", ("b",))))
FOURTEEN = "abcdefghijklmn"


def renamed(thing, names):
    """A tree or a web with other names."""
    if isinstance(thing, Web):
        for name in thing.names:
            thing = thing.put(name, names[name])
        return thing
    if thing[0] == "ask":
        return ("ask", names[thing[1]], renamed(thing[2], names), renamed(thing[3], names))
    return (thing[0], tuple(sorted(names[name] for name in thing[1])))


def loose(chance, opened=(), shut=(), names=LETTERS[:5]):
    """A drawn tree, for no webs."""
    free = [name for name in names if name not in opened + shut]
    if not free or chance.random() < 0.3:
        word = chance.choice(["way", "cut"])
        answered = opened if word == "way" else shut
        return (word, tuple(sorted(name for name in answered if chance.random() < 0.7)))
    name = chance.choice(free)
    return ("ask", name, loose(chance, opened + (name,), shut, names), loose(chance, opened, shut + (name,), names))


def led_to(tree, names):
    """The leaf to which a tree leads if just these names are open."""
    for opened, shut, leaf in plain_rows(tree):
        if set(opened) <= set(names) and not set(shut) & set(names):
            return leaf
    return None


class FixedTest(Case):
    def test_told_examples(self):
        self.same(fixed(T, "b", True), ("ask", "a", ("way", ()), ("cut", ("a",))))
        self.same(fixed(T, "b", False), ("ask", "a", ("ask", "c", ("way", ("a", "c")), ("cut", ("c",))), ("cut", ("a",))))
        self.same([fixed(tree=T, name="a", is_open=False), fixed(T, "zz", True), fixed(T, "zz", False)], [("cut", ()), T, T])

    def test_trees_for_webs_without_a_name_or_with_it_made_sure(self):
        for one, other, tree in tree_pairs(100):
            told = frozen(tree)
            for name in ("a", "b", "c", "zz"):
                for is_open in (True, False):
                    found = fixed(tree, name, is_open)
                    webs = [web.sure(name) if is_open else web.without(name) for web in (one, other)]
                    self.assertTrue(plain_is_tree(*webs, found))
                    self.assertNotIn(name, [each for opened, shut, _ in plain_rows(found) for each in opened + shut])
                    self.same(fixed(tree, name, is_open), found)
            self.same(frozen(tree), told)

    def test_each_road_stays(self):
        chance = random.Random(61)
        for _ in range(60):
            tree = loose(chance)
            for name, is_open in itertools.product("abz", (True, False)):
                rows = [(tuple(each for each in opened if each != name), tuple(each for each in shut if each != name),
                         (leaf[0], tuple(each for each in leaf[1] if each != name)))
                        for opened, shut, leaf in plain_rows(tree) if name not in (shut if is_open else opened)]
                self.same(plain_rows(fixed(tree, name, is_open)), rows)


class TurnedTest(Case):
    def test_told_example(self):
        self.same([turned(T), turned(tree=TURNED)], [TURNED, T])
        self.same(is_tree(Web.row("b", Web.bunch("a", "c")), Web.bunch("a", Web.row("b", "c")), turned(T)), True)

    def test_trees_for_duals(self):
        many = 0
        for one, other, tree in tree_pairs(500):
            self.same(turned(turned(tree)), tree)
            if one.is_tied and other.is_tied:
                many += 1
                self.assertTrue(plain_is_tree(~other, ~one, turned(tree)))
        self.assertTrue(many > 30, many)

    def test_all_leaves(self):
        chance = random.Random(62)
        for _ in range(60):
            tree = loose(chance)
            rows = [(shut, opened, ("cut" if word == "way" else "way", names))
                    for opened, shut, (word, names) in plain_rows(tree)]
            self.same(plain_rows(turned(tree)), rows[::-1])


class ThroughTest(Case):
    def test_from_one_to_three(self):
        trees = tree_pairs(220, 4)
        webs = {frozen(web): web for one, other, _ in trees for web in (one, other)}
        many = 0
        for one, two, first in trees:
            for three in list(webs.values())[::7]:
                second = tree_of(two, three)
                if second is not None:
                    many += 1
                    found = through(first, second)
                    self.assertTrue(plain_is_tree(one, three, found))
                    rows = [(opened, shut, led_to(second, leaf[1]) if leaf[0] == "way" else leaf)
                            for opened, shut, leaf in plain_rows(first)]
                    self.same(plain_rows(found), rows)
        self.assertTrue(many > 300, many)

    def test_names_of_the_leaf_alone_are_open(self):
        first = ("ask", "a", ("ask", "b", ("way", ("b",)), ("way", ("a",))), ("cut", ()))
        second = ("ask", "a", ("way", ("a",)), ("ask", "b", ("way", ("b",)), ("cut", ("a", "b"))))
        self.same(through(first=first, second=second), first)
        self.same(through(first, ("way", ())), ("ask", "a", ("ask", "b", ("way", ()), ("way", ())), ("cut", ())))
        self.same(through(("cut", ()), ("cut", ())), ("cut", ()))

    def test_second_leads_to_a_cut(self):
        self.fails(BadTree, [], through, ("way", ()), ("cut", ()))
        self.fails(BadTree, [], through, T, chain("a", ("way", ())))
        self.fails(BadTree, [], through, T, TURNED)
        self.fails(BadTree, [], through, T, ("ask", "d", ("way", ()), ("cut", ())))
        self.same(through(T, ("ask", "d", ("cut", ()), ("way", ()))), renamed_ways(T))


def renamed_ways(tree):
    """The tree with no names in its way leaves."""
    if tree[0] == "ask":
        return ("ask", tree[1], renamed_ways(tree[2]), renamed_ways(tree[3]))
    return ("way", ()) if tree[0] == "way" else tree


class SideBySideTest(Case):
    def test_trees_for_rows_and_bunches(self):
        names = dict(zip(LETTERS[:5], LETTERS[20:25]))
        trees = [row for row in tree_pairs(60, 4) if row[0].kind not in ("open", "shut")]
        for (one, other, first), (one2, other2, tree) in zip(trees, trees[1:] + trees[:1]):
            second = renamed(tree, names)
            one2, other2 = renamed(one2, names), renamed(other2, names)
            self.assertTrue(plain_is_tree(one2, other2, second))
            told = [frozen(first), frozen(second)]
            self.assertTrue(plain_is_tree(one | one2, other | other2, beside(first=first, second=second)))
            self.assertTrue(plain_is_tree(one & one2, other & other2, behind(first=first, second=second)))
            self.same([frozen(first), frozen(second)], told)
            self.same(turned(beside(turned(first), turned(second))), behind(first, second))

    def test_all_leaves(self):
        chance = random.Random(63)
        for _ in range(60):
            first, second = loose(chance), loose(chance, (), (), LETTERS[8:12])
            for join, word in ((beside, "cut"), (behind, "way")):
                rows = []
                for opened, shut, leaf in plain_rows(first):
                    if leaf[0] != word:
                        rows.append((opened, shut, leaf))
                        continue
                    for opened2, shut2, (word2, names) in plain_rows(second):
                        if word2 == word:
                            names = tuple(sorted(set(names + leaf[1])))
                        rows.append((opened + opened2, shut + shut2, (word2, names)))
                self.same(plain_rows(join(first, second)), rows)

    def test_a_name_twice_on_a_road(self):
        for join in (beside, behind):
            self.fails(BadTree, [], join, T, T)
            self.fails(BadTree, [], join, T, ("ask", "c", ("way", ()), ("cut", ())))
            self.fails(BadTree, [], join, T, ("ask", "z", ("way", ()), ("ask", "a", ("way", ()), ("cut", ()))))
        # The name is asked on another road alone.
        tree = ("ask", "a", ("ask", "b", ("way", ("b",)), ("way", ("a",))), ("cut", ("a",)))
        more = ("ask", "b", ("way", ("b",)), ("cut", ("b",)))
        self.same(beside(tree, more), ("ask", "a", tree[2], ("ask", "b", ("way", ("b",)), ("cut", ("a", "b")))))
        self.fails(BadTree, [], behind, tree, more)

    def test_no_leaf_to_go_on_from(self):
        self.same([beside(("way", ()), T), behind(("cut", ()), T), beside(("cut", ()), T), behind(("way", ()), T)],
                  [("way", ()), ("cut", ()), T, T])
        always = ("ask", "a", ("way", ("a",)), ("way", ()))
        self.same([beside(always, T), beside(always, always), behind(turned(always), T)], [always, always, turned(always)])

    def test_fourteen_and_fifteen_names(self):
        first, last = chain(FOURTEEN[:7]), chain(FOURTEEN[7:])
        self.same([questions(behind(first, last)), questions(beside(turned(first), turned(last)))], [14, 14])
        for more in (chain("hijklmno"), ("ask", "z", chain("hijklmn"), ("way", ())), ("ask", "z", ("way", ()), chain("hijklmn"))):
            self.fails(BadTree, [], behind, first, more)
            self.fails(BadTree, [], beside, turned(first), turned(more))
        self.same(questions(beside(first, ("ask", "z", ("way", ()), ("cut", ())))), 14)
        self.fails(BadTree, [], beside, chain(FOURTEEN), ("ask", "z", ("way", ()), ("cut", ())))
        self.same(beside(chain(FOURTEEN), ("cut", ())), chain(FOURTEEN))
        self.fails(BadTree, [], beside, chain(FOURTEEN, ("cut", ())), ("ask", "z", ("way", ()), ("cut", ())))

    def test_what_would_be_far_too_great(self):
        def full(names):
            return ("ask", names[0], full(names[1:]), full(names[1:])) if names else ("cut", ())

        self.fails(BadTree, [], beside, full(LETTERS[:10]), full(LETTERS[10:20]))


class NoTreeTest(Case):
    def test_any_value(self):
        for thing in no_trees():
            self.fails(BadTree, [], turned, thing)
            for is_open in (True, False):
                self.fails(BadTree, [], fixed, thing, "a", is_open)
            for join in (through, beside, behind):
                for other in (T, TURNED, ("way", ()), ("cut", ())):
                    self.fails(BadTree, [], join, thing, other)
                    self.fails(BadTree, [], join, other, thing)
                self.fails(BadTree, [], join, thing, thing)

    def test_pairs_of_odd_values(self):
        for one, other in itertools.product(odd_values()[::5], repeat=2):
            for join in (through, beside, behind):
                self.fails(BadTree, [], join, one, other)


class RulesTest(Case):
    def test_mass_of_a_tree_for_a_web_and_itself(self):
        chance = random.Random(64)
        for _ in range(60):
            for web in plain_pair(chance):
                values = Values({name: Ratio(chance.randrange(4), 3) for name in web.names})
                self.same(mass(tree_of(web, web), values), ratio(plain_chance(web, values)))

    def test_results_are_used_again(self):
        tree = behind(through(tree_of(LOW, HIGH), tree_of(HIGH, HIGH)), renamed(T, {"a": "p", "b": "q", "c": "r"}))
        low, high = [web & renamed(web, {"a": "p", "b": "q", "c": "r"}) for web in (LOW, HIGH)]
        self.same([is_tree(low, high, tree), is_tree(~high, ~low, turned(tree)), len(list(leaves(tree)))],
                  [True, True, questions(tree) + 1])
        self.same(is_tree(low - "q", high - "q", fixed(tree, "q", False)), True)


if __name__ == "__main__":
    unittest.main()
