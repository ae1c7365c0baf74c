"""Point [27]: the bridge, and which plain webs are alike to tied ones."""

import itertools
import random
import time
import unittest

from drawn import plain_web
from plain import plain_joins
from samples import LETTERS, Case, all_name_sets, frozen, odd_values, spoilt
from sixasone.bridges import is_bridge, shows_tied, tied_of
from sixasone.errors import NotPlain
from sixasone.webs import Web

BRIDGE = Web.net([("a", 0, 2), ("b", 0, 3), ("m", 2, 3), ("c", 2, 1), ("d", 3, 1)])
LINKS = BRIDGE.links
TURNED_ROUND = [(p, q) for p in (2, 5, 9) for q in (3, 6, 99)]
BRIDGES = {tuple(sorted([(0, p), (0, q), (p, q), (1, p), (1, q)])) for p, q in itertools.combinations(range(2, 100), 2)}


def plain_is_bridge(web):
    """Whether a web is the bridge, by all pairs of joints."""
    pairs = tuple(sorted((u, v) for _, u, v in web.links))
    return len({name for name, _, _ in web.links}) == len(pairs) and pairs in BRIDGES


def plain_alike(one, other):
    """Whether the same sets of names join both webs."""
    names = sorted(set(one.names + other.names))
    return all(plain_joins(one, some) == plain_joins(other, some) for some in all_name_sets(names))


def no_idle(web):
    """Whether each name of a web makes the difference for some set of names."""
    return all(any(plain_joins(web, some + (name,)) and not plain_joins(web, some)
                   for some in all_name_sets(web.names)) for name in web.names)


def plain_shows(web, thing):
    """Whether any value is as told, word by word."""
    if type(thing) is not tuple or not thing or type(thing[0]) is not str:
        return False
    if thing[0] == "tied" and len(thing) == 2:
        other = thing[1]
        return type(other) is Web and other.is_tied and other.is_plain and plain_alike(web, other) and no_idle(other)
    if thing[0] != "bridge" or len(thing) != 3:
        return False
    for names in thing[1:]:
        if type(names) is not tuple or not all(type(name) is str and name in web.names for name in names):
            return False
        if list(names) != sorted(set(names)):
            return False
    if set(thing[1]) & set(thing[2]):
        return False
    return plain_is_bridge(web.without(*thing[1]).sure(*thing[2]))


def drawn_nets(count, most, seed):
    """Plain webs with nets in them, and nets alone."""
    chance = random.Random(seed)
    webs = [Web.always(), Web.never(), Web.link("a"), Web.net([("a", 2, 3)]), BRIDGE, -BRIDGE, "z" & BRIDGE, BRIDGE | "z",
            ("z" & BRIDGE) | "y", ("y" | BRIDGE) & "z", BRIDGE.put("m", Web.row("x", "y")), BRIDGE.put("a", Web.bunch("x", "y"))]
    for at in range(count):
        names = chance.sample(LETTERS, chance.randrange(1, most + 1))
        if at % 3 == 0:
            webs.append(plain_web(chance, names))
        elif at % 3 == 1:
            webs.append(Web.net([(name, chance.randrange(3 + at % 5), chance.randrange(3 + at % 5)) for name in names]))
        else:
            webs.append(grown_bridge(chance, most))
    return webs


def grown_bridge(chance, most):
    """The bridge with some more links, in rows, in bunches and across."""
    web = BRIDGE
    for name in "efghijkl"[:most - 5]:
        draw, place = chance.randrange(4), chance.choice(web.names)
        if draw == 0:
            web = web & name if chance.random() < 0.5 else web | name
        elif draw == 1:
            web = web.put(place, Web.row(place, name) if chance.random() < 0.5 else Web.bunch(name, place))
        else:
            web = Web.net(list(web.links) + [(name, chance.choice(web.joints), chance.choice(web.joints))])
    return web


class IsBridgeTest(Case):
    def test_numbers_of_the_joints(self):
        for p, q in TURNED_ROUND + [(q, p) for p, q in TURNED_ROUND]:
            for names in ("abcde", "edcba", "badce"):
                pairs = [(0, p), (0, q), (p, q), (1, p), (q, 1)]
                web = Web.net([(name, u, v) for name, (u, v) in zip(names, pairs)])
                self.same([is_bridge(web=web), is_bridge(-web), is_bridge(web.net_of())], [True] * 3)

    def test_what_is_not(self):
        more = [("i", 2, 2), ("i", 0, 0), ("i", 1, 1), ("i", 7, 7), ("i", 7, 8), ("i", 0, 1), ("i", 0, 2), ("i", 2, 3)]
        for link in more:
            self.same(is_bridge(Web.net(list(LINKS) + [link])), False)
        for at in range(5):
            less = [link for place, link in enumerate(LINKS) if place != at]
            self.same(is_bridge(Web.net(less)), False)
            for link in more + [("i", 0, 3), ("i", 1, 2), ("i", 1, 3)]:
                web = Web.net(less + [link])
                self.same(is_bridge(web), plain_is_bridge(web))
        for web in (Web.always(), Web.never(), Web.link("a"), Web.row(*"abcde"), Web.bunch(*"abcde"), BRIDGE & "z",
                    Web.net([("a", u, v) for _, u, v in LINKS]), Web.net([("a", 0, 2), ("a", 0, 3)] + list(LINKS[2:]))):
            self.same(is_bridge(web), False)

    def test_all_nets_of_five_links(self):
        pairs = [(u, v) for u in range(4) for v in range(u, 4)]
        for some in itertools.combinations(pairs, 5):
            web = Web.net([(name, u, v) for name, (u, v) in zip("abcde", some)])
            self.same(is_bridge(web), plain_is_bridge(web))


class TiedOfTest(Case):
    def test_told_examples(self):
        self.same(tied_of("z" & BRIDGE), ("bridge", (), ("z",)))
        self.same([tied_of(BRIDGE), tied_of(Web.always()), tied_of(Web.never()), tied_of(Web.net([("a", 2, 3)]))],
                  [("bridge", (), ()), ("tied", Web.always()), ("tied", Web.never()), ("tied", Web.never())])

    def test_drawn_webs(self):
        sorts = {"tied": 0, "bridge": 0}
        for web in drawn_nets(240, 8, 101):
            told = frozen(web)
            found = tied_of(web=web)
            self.same(frozen(web), told)
            self.assertTrue(plain_shows(web, found), (web.links, found))
            self.same(shows_tied(web, found), True)
            self.same(tied_of(web), found)
            sorts[found[0]] += 1
        self.assertTrue(min(sorts.values()) > 50, sorts)

    def test_just_one_of_the_two(self):
        for web in drawn_nets(60, 6, 102):
            leaves = []
            for answers in itertools.product((0, 1, 2), repeat=abs(web)):
                taken, made = [tuple(name for name, told in zip(web.names, answers) if told == sort) for sort in (1, 2)]
                leaves.append(plain_is_bridge(web.without(*taken).sure(*made)))
            self.same(tied_of(web)[0], "bridge" if any(leaves) else "tied")

    def test_fourteen_places(self):
        chance = random.Random(103)
        names = "abcdefghijklmn"
        webs = [Web.row(*[Web.bunch(*names[at:at + 2]) for at in range(0, 14, 2)]),
                Web.bunch(*[Web.row(*names[at:at + 2]) for at in range(0, 14, 2)])]
        webs += [Web.net([(name, *chance.sample(range(joints), 2)) for name in names])
                 for joints in (3, 4, 5, 6, 7, 8) for _ in range(4)]
        for web in webs:
            begun = time.process_time()
            found = tied_of(web)
            self.same(shows_tied(web, found), True)
            self.assertTrue(time.process_time() - begun < 5)

    def test_several_places(self):
        for web, name in ((Web.row("b", "a", "b"), "b"), (Web.net([("d", 2, 3), ("c", 0, 1), ("d", 0, 1), ("c", 4, 4)]), "c")):
            self.fails(NotPlain, [name], tied_of, web)
            for odd in odd_values() + [("tied", web), ("bridge", (), ())]:
                self.fails(NotPlain, [name], shows_tied, web, odd)


class ShowsTiedTest(Case):
    def test_told_example(self):
        self.same([shows_tied(BRIDGE | "z", ("bridge", ("z",), ())), shows_tied(BRIDGE | "z", ("bridge", (), ("z",)))],
                  [True, False])

    def test_all_bridges(self):
        for web in (BRIDGE, "z" & BRIDGE, BRIDGE | "z", BRIDGE.put("m", Web.row("m", "y")), BRIDGE.put("a", Web.bunch("a", "y"))):
            right = 0
            for answers in itertools.product((0, 1, 2), repeat=abs(web)):
                taken, made = [tuple(name for name, told in zip(web.names, answers) if told == sort) for sort in (1, 2)]
                thing = ("bridge", taken, made)
                self.same(shows_tied(web=web, thing=thing), plain_shows(web, thing))
                right += shows_tied(web, thing)
            self.assertTrue(right > 0)

    def test_of_another_hand(self):
        web = Web.net([("a", 0, 2), ("b", 2, 3), ("c", 1, 3), ("d", 0, 3), ("i", 2, 2)])
        for text, wanted in (("(((a & b) | d) & c)", True), ("(c & (d | (b & a)))", True), ("(c & ((a & b) | d))", True),
                             ("(((a & b) | d | i) & c)", False), ("(((a & b) | d) & c & i)", False), ("((a & b) | (d & c))", False),
                             ("((a & b & c) | (d & c))", False), ("open", False), ("shut", False), ("[0-c-1]", False)):
            self.same([shows_tied(web, ("tied", Web.read(text))), text], [wanted, text])
        # A net is not tied, also where it is alike.
        self.same([shows_tied(Web.link("a"), ("tied", other)) for other in
                   (Web.net([("a", 0, 1)]), Web.link("a"), Web.link("b"), "a", Web.row("a", "a"), Web.row("a"))],
                  [False, True, False, False, False, True])

    def test_spoilt_and_any_value(self):
        for web in drawn_nets(40, 5, 104):
            found = tied_of(web)
            things = spoilt(found) + odd_values() + [list(found), found + ((),), ("tied", web), ("tied", str(web))]
            things += [("bridge", web.names, ()), ("bridge", (), web.names), ("bridge", web.names, web.names),
                       ("bridge", ("zz",), ()), ("bridge", (), ("zz",)), ("bridge", [], []), ("bridge", None, None),
                       ("bridge", ("open",), ()), ("tied", None), ("tied",), ("bridge", (), (), ())]
            for thing in things:
                told = frozen(thing)
                self.same([shows_tied(web, thing), frozen(thing)], [plain_shows(web, thing), told])

    def test_names_twice_and_out_of_order(self):
        web = Web.row("x", "y", BRIDGE)
        for taken, made, wanted in (((), ("x", "y"), True), ((), ("y", "x"), False), ((), ("x", "x", "y"), False),
                                    ((), ["x", "y"], False), (("x",), ("x", "y"), False), (("x",), ("y",), False),
                                    ((), ("x",), False), ((), (), False)):
            self.same(shows_tied(web, ("bridge", taken, made)), wanted)
        beside = Web.bunch("x", "y", BRIDGE)
        for taken, made, wanted in ((("x", "y"), (), True), (("x", "y"), ("x",), False), (("x", "y"), ("x", "y"), False),
                                    (("x",), ("y",), False), (("x", "x", "y"), (), False), (("y", "x"), (), False)):
            self.same(shows_tied(beside, ("bridge", taken, made)), wanted)


if __name__ == "__main__":
    unittest.main()
