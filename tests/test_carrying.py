"""Points [22], [24] and [25]: what a tree of cases carries."""

import random
import time
import unittest

from drawn import HIGH, LOW, T, never_worse, no_trees, plain_web, tree_pairs
from plain import along, drawn_streams, plain_is_stream, plain_is_tree, plain_joins, plain_rows
from samples import FIGURES_60, LETTERS, Case, all_name_sets, frozen, odd_values, spoilt
from sixasone.carrying import carry_cut, carry_heights, carry_stream, carry_way
from sixasone.cases import tree_of
from sixasone.errors import BadHeights, BadStream, BadTree, NotPlain
from sixasone.ratios import Ratio
from sixasone.streams import amount
from sixasone.walks import walks_of
from sixasone.webs import Web

BRIDGE = Web.net([("a", 0, 2), ("b", 0, 3), ("m", 2, 3), ("c", 2, 1), ("d", 3, 1)])
WORSE = (Web.link("a") | "b") & "m" & (Web.link("c") | "d")
HALF = Ratio(1, 2)


def gone(tree, is_open):
    """The leaf to which the questions lead, gone one by one."""
    while len(tree) == 4:
        tree = tree[2] if is_open(tree[1]) else tree[3]
    return tree


def asking_all(one, other, chance):
    """A tree for two webs that asks all their names, in any order."""
    names = sorted(set(one.names + other.names))
    chance.shuffle(names)

    def below(at, opened, shut):
        if at == len(names):
            word, told = ("way", opened) if plain_joins(other, opened) else ("cut", shut)
            return (word, tuple(sorted(told)))
        return ("ask", names[at], below(at + 1, opened + [names[at]], shut), below(at + 1, opened, shut + [names[at]]))

    return below(0, [], [])


def better_pair(chance, most=6):
    """Two plain webs, the second one never worse, often with names that one of them lacks."""
    names = list(LETTERS[:chance.randrange(1, most + 1)])
    one, other = [plain_web(chance, names)] * 2
    for name in names:
        draw = chance.random()
        if draw < 0.15 and name in one:
            one = one - name
        elif draw < 0.3 and name in other:
            other = other // name
        elif draw < 0.4 and name in other:
            other = other.put(name, Web.bunch(name, name + "x"))
        elif draw < 0.5 and name in one:
            one = one.put(name, Web.row(name + "y", name))
    if chance.random() < 0.2:
        other = other | "z"
    if chance.random() < 0.2:
        one = "zz" & one
    return (one, -other) if chance.random() < 0.2 and never_worse(one, -other) else (one, other)


def better_pairs(count, seed):
    """Pairs of plain webs, each with two trees for them."""
    chance = random.Random(seed)
    pairs = [(Web.never(), Web.never()), (Web.never(), Web.link("a")), (Web.link("a"), Web.always()),
             (Web.always(), Web.always()), (Web.never(), Web.always()), (LOW, HIGH), (WORSE, BRIDGE), (BRIDGE, BRIDGE),
             (Web.net([("a", 2, 3)]), Web.never()), (Web.net([("a", 2, 3)]), Web.link("a")),
             (Web.link("a"), Web.net([("a", 0, 1), ("b", 2, 3), ("c", 0, 0), ("d", 4, 4)]))]
    pairs += [better_pair(chance) for _ in range(count)]
    found = [(one, other, tree_of(one, other)) for one, other in pairs]
    few = [(one, other) for one, other in pairs if len(set(one.names + other.names)) < 8]
    return found + [(one, other, asking_all(one, other, chance)) for one, other in few]


def borne(web, streams):
    return {name: abs(part) for (name, _, _), part in zip(web.links, streams)}


def falls(web, heights):
    level = dict(zip(web.joints, heights))
    return {name: abs(level[u] - level[v]) for name, u, v in web.links}


def drawn_heights(chance, web):
    """Heights of all sorts: above 1, below 0, of fractions, some of them equal."""
    if web.kind == "open":
        return [(Ratio(n, 3),) * 2 for n in (0, 3, -2)]
    found = []
    for ends in ((1, 0), (0, 1), (Ratio(1, 3), Ratio(1, 3)), (Ratio(-5, 2), 7), (Ratio(FIGURES_60, 7), Ratio(-1, FIGURES_60))):
        levels = [Ratio(chance.randrange(-3, 9), chance.choice([1, 2, 5])) for _ in web.joints[2:]]
        found.append(tuple([Ratio.of(end) for end in ends] + levels))
    return found


def streams_of_walks(chance, web):
    """Streams that are sums of some of the walks, for webs of many places."""
    walks, found = walks_of(web), []
    for _ in range(3):
        parts = [Ratio(0)] * len(web)
        for walk in chance.sample(walks, min(len(walks), 12)):
            many = Ratio(chance.randrange(-3, 9), chance.choice([1, 2, 3]))
            for place, way in along(web, walk):
                parts[place] += way * many
        found.append(tuple(parts))
    return found


class CarryNamesTest(Case):
    def test_against_the_questions(self):
        for one, other, tree in tree_pairs(80):
            asked = {name for opened, shut, _ in plain_rows(tree) for name in opened + shut}
            for names in all_name_sets(sorted(asked)[:4] + ["zz", "q"]):
                word, told = gone(tree, lambda name: name in names)
                for given in (names, list(names), names + names, ["other"] + list(names)):
                    before = frozen(given)
                    self.same(carry_way(tree=tree, names=given), told if word == "way" else None)
                    self.same(frozen(given), before)
                word, told = gone(tree, lambda name: name not in names)
                for given in (names, list(names), names + names, ["other"] + list(names)):
                    before = frozen(given)
                    self.same(carry_cut(tree=tree, names=given), told if word == "cut" else None)
                    self.same(frozen(given), before)

    def test_ways_and_cuts_are_led_to_such(self):
        for one, other, tree in tree_pairs(80):
            for names in all_name_sets(sorted(set(one.names + other.names))):
                if plain_joins(one, names):
                    led = carry_way(tree, names)
                    self.assertTrue(set(led) <= set(names) and plain_joins(other, led))
                if not plain_joins(other, set(other.names) - set(names)):
                    led = carry_cut(tree, names)
                    self.assertTrue(set(led) <= set(names) and not plain_joins(one, set(one.names) - set(led)))

    def test_told_tree(self):
        self.same([carry_way(T, ["a", "b"]), carry_way(T, ("c", "a")), carry_way(T, ["a"]), carry_way(T, ["b", "c"])],
                  [("b",), ("a", "c"), None, None])
        self.same([carry_cut(T, ["a"]), carry_cut(T, ("c", "b", "x")), carry_cut(T, ["c"]), carry_cut(T, ["a", "b", "c"])],
                  [("a",), ("b", "c"), None, ("a",)])
        self.same([carry_way(("way", ()), []), carry_way(("cut", ()), []), carry_cut(("way", ()), []),
                   carry_cut(("cut", ()), ["a"])], [(), None, None, ()])

    def test_no_trees(self):
        for thing in no_trees():
            for names in ([], ("a",), ["a", "b", "c"]):
                self.fails(BadTree, [], carry_way, thing, names)
                self.fails(BadTree, [], carry_cut, thing, names)


class CarryStreamTest(Case):
    def check(self, one, other, tree, streams):
        told = frozen([one, other, tree, streams])
        carried = carry_stream(tree, one, other, streams)
        self.same(carry_stream(tree=tree, one=one, other=other, streams=streams), carried)
        self.same(frozen([one, other, tree, streams]), told)
        if other.kind == "open":
            self.same(carried, ())
            return
        self.assertTrue(plain_is_stream(other, carried))
        self.same(amount(other, carried), amount(one, streams))
        most = borne(one, streams)
        for name, part in borne(other, carried).items():
            self.assertTrue(part <= most.get(name, Ratio(0)), (one.links, other.links, name))

    def test_told_example(self):
        stream = (HALF, HALF, -HALF, -HALF, Ratio(1))
        self.check(WORSE, BRIDGE, tree_of(WORSE, BRIDGE), stream)
        self.same(carry_stream(tree_of(WORSE, BRIDGE), WORSE, BRIDGE, stream)[4], Ratio(0))

    def test_drawn_pairs(self):
        chance = random.Random(82)
        unlike = 0
        for one, other, tree in better_pairs(60, 81):
            self.assertTrue(plain_is_tree(one, other, tree))
            for streams in drawn_streams(chance, one, 4) if len(one) < 7 else streams_of_walks(chance, one):
                self.check(one, other, tree, streams)
                self.check(one, other, tree, tuple(-part for part in streams))
            unlike += set(one.names) != set(other.names)
        self.assertTrue(unlike > 30, unlike)

    def test_open_and_shut(self):
        self.same([carry_stream(("way", ()), one, Web.always(), streams) for one, streams in
                   ((Web.always(), ()), (Web.never(), ()), (Web.link("a"), (Ratio(7),)))], [(), (), ()])
        self.same(carry_stream(("cut", ()), Web.never(), BRIDGE, ()), (Ratio(0),) * 5)
        lone = Web.net([("a", 2, 3), ("b", 2, 3)])
        self.same(carry_stream(("cut", ()), lone, Web.link("b"), (Ratio(2), Ratio(-2))), (Ratio(0),))

    def test_errors_in_their_order(self):
        twice, both = Web.row("b", "b"), Web.bunch("d", "c", "d", "c")
        for odd in odd_values() + no_trees():
            for streams in (None, (), (Ratio(1),)):
                self.fails(NotPlain, ["b"], carry_stream, odd, twice, both, streams)
                self.fails(NotPlain, ["c"], carry_stream, odd, BRIDGE, both, streams)
        for tree in no_trees() + [T, tree_of(HIGH, HIGH), ("way", ()), ("cut", ())]:
            for streams in (None, (Ratio(1),) * 3):
                self.fails(BadTree, [], carry_stream, tree, HIGH, LOW, streams)
        right = (HALF, HALF, -HALF, -HALF, Ratio(1))
        for odd in odd_values() + [other for other in spoilt(right) if not plain_is_stream(WORSE, other)]:
            self.fails(BadStream, [], carry_stream, tree_of(WORSE, BRIDGE), WORSE, BRIDGE, odd)
        for odd in [odd for odd in odd_values() if odd != ()]:
            self.fails(BadStream, [], carry_stream, ("way", ()), Web.never(), Web.always(), odd)


class CarryHeightsTest(Case):
    def check(self, one, other, tree, heights):
        told = frozen([one, other, tree, heights])
        carried = carry_heights(tree, one, other, heights)
        self.same(carry_heights(tree=tree, one=one, other=other, heights=heights), carried)
        self.same(frozen([one, other, tree, heights]), told)
        self.same([type(carried), len(carried), {type(part) for part in carried}], [tuple, len(one.joints), {Ratio}])
        self.same(carried[:2], heights[:2])
        most = falls(other, heights)
        for name, part in falls(one, carried).items():
            self.assertTrue(part <= most.get(name, Ratio(0)), (one.links, other.links, name))

    def test_told_example(self):
        heights = (Ratio(1), Ratio(0), Ratio(4, 9))
        self.same(carry_heights(tree_of(LOW, HIGH), LOW, HIGH, heights), (Ratio(1), Ratio(0), Ratio(4, 9)))
        self.check(LOW, HIGH, tree_of(LOW, HIGH), heights)

    def test_drawn_pairs(self):
        chance = random.Random(84)
        for one, other, tree in better_pairs(60, 83):
            for heights in drawn_heights(chance, other):
                self.check(one, other, tree, heights)

    def test_pieces_that_touch_no_end(self):
        one = Web.net([("a", 0, 2), ("b", 2, 1), ("c", 5, 6), ("d", 7, 7)])
        other = Web.net([("a", 0, 2), ("b", 2, 1), ("c", 3, 4), ("e", 4, 9)])
        for heights in drawn_heights(random.Random(85), other):
            self.check(one, other, tree_of(one, other), heights)
            self.check(one, one, tree_of(one, one), heights[:3] + heights[:3])

    def test_open_and_shut(self):
        for height in (Ratio(3), Ratio(0), Ratio(-1, 2)):
            self.same([carry_heights(("way", ()), one, Web.always(), (height, height)) for one in
                       (Web.always(), Web.never(), Web.row("a", "b"))],
                      [(height,) * 2, (height,) * 2, (height,) * 3])
        self.same(carry_heights(("cut", ()), Web.never(), Web.never(), (Ratio(5), Ratio(-2))), (Ratio(5), Ratio(-2)))
        self.check(Web.net([("a", 2, 3)]), Web.never(), ("cut", ()), (Ratio(5), Ratio(-2)))

    def test_errors_in_their_order(self):
        twice, both = Web.row("b", "b"), Web.bunch("d", "c", "d", "c")
        for odd in odd_values() + no_trees():
            for heights in (None, (), (Ratio(1), Ratio(0))):
                self.fails(NotPlain, ["b"], carry_heights, odd, twice, both, heights)
                self.fails(NotPlain, ["c"], carry_heights, odd, BRIDGE, both, heights)
        for tree in no_trees() + [T, tree_of(HIGH, HIGH), ("way", ()), ("cut", ())]:
            self.fails(BadTree, [], carry_heights, tree, HIGH, LOW, None)
            self.fails(BadTree, [], carry_heights, tree, HIGH, LOW, (Ratio(1), Ratio(0), Ratio(1)))
        tree, right = tree_of(LOW, HIGH), (Ratio(1), Ratio(0), Ratio(4, 9))
        for odd in odd_values() + [list(right), right[:2], right + (Ratio(1),), (1, 0, 1), right[:2] + (Ratio.endless(),),
                                   (Ratio.endless(),) + right[1:], right[:2] + (1,), right[:2] + (None,)]:
            self.fails(BadHeights, [], carry_heights, tree, LOW, HIGH, odd)
        # Heights of the open web are equal.
        for odd in ((Ratio(1), Ratio(0)), (Ratio(1),), (), (Ratio(1),) * 3, [Ratio(1)] * 2, (1, 1), None):
            self.fails(BadHeights, [], carry_heights, ("way", ()), LOW, Web.always(), odd)


class FourteenPlacesTest(Case):
    def test_long_webs(self):
        chance = random.Random(86)
        names = "abcdefghijklmn"
        webs = [Web.row(*[Web.bunch(*names[at:at + 2]) for at in range(0, 14, 2)]),
                Web.bunch(*[Web.row(*names[at:at + 2]) for at in range(0, 14, 2)])]
        webs += [Web.net([(name, *chance.sample(range(joints), 2)) for name in names]) for joints in (5, 6, 7)]
        for one in webs:
            for other in (one, one // one.names[0], one.put("b", Web.link("z"))):
                tree = tree_of(one, other)
                if tree is None:
                    continue
                begun = time.process_time()
                for streams in streams_of_walks(chance, one):
                    CarryStreamTest.check(self, one, other, tree, streams)
                for heights in drawn_heights(chance, other):
                    CarryHeightsTest.check(self, one, other, tree, heights)
                self.assertTrue(time.process_time() - begun < 20)


if __name__ == "__main__":
    unittest.main()
