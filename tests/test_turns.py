"""Points [28] and [29]: turns."""

import itertools
import random
import time
import unittest

from drawn import plain_web
from plain import plain_chance, plain_joins, plain_number
from samples import LETTERS, Case, all_name_sets, frozen, odd_values, spoilt
from sixasone.cuts import cuts
from sixasone.errors import NotPlain, NoTurn, TooMany
from sixasone.idles import bare
from sixasone.ratios import Ratio
from sixasone.turns import same_net, shows_turns, turn, turns_between
from sixasone.values import Values
from sixasone.ways import ways
from sixasone.webs import Web

BRIDGE = Web.net([("a", 0, 2), ("b", 0, 3), ("m", 2, 3), ("c", 2, 1), ("d", 3, 1)])
CROSSED = Web.net([("a", 0, 2), ("b", 0, 3), ("m", 2, 3), ("d", 2, 1), ("c", 3, 1)])


def plain_outer(web, names):
    """The outer joints of a part, joint by joint."""
    found = []
    for joint in web.joints:
        touching = [name for name, u, v in web.links if joint in (u, v)]
        if set(touching) & set(names) and (joint in (0, 1) or set(touching) - set(names)):
            found.append(joint)
    return found


def plain_turn(web, names):
    """The links of the turned net, or the index of NoTurn, word by word."""
    if type(names) is not tuple or not names or any(type(name) is not str or name not in web.names for name in names):
        return 0
    if list(names) != sorted(set(names)):
        return 0
    outer = plain_outer(web, names)
    if len(outer) != 2:
        return 1
    change = {outer[0]: outer[1], outer[1]: outer[0]}
    rows = [(name, change.get(u, u), change.get(v, v)) if name in names else (name, u, v) for name, u, v in web.links]
    return tuple(sorted((name, min(u, v), max(u, v)) for name, u, v in rows))


def plain_same(one, other):
    """Whether two webs are the same, by all renamings."""
    if "open" in (one.kind, other.kind):
        return one.kind == other.kind
    if len(one.joints) != len(other.joints):
        return False
    for order in itertools.permutations(other.joints[2:]):
        number = dict(zip(one.joints, (0, 1) + order))
        rows = [(name, *sorted((number[u], number[v]))) for name, u, v in one.links]
        if sorted(rows) == sorted(other.links):
            return True
    return False


def plain_alike(one, other):
    names = sorted(set(one.names + other.names))
    return all(plain_joins(one, some) == plain_joins(other, some) for some in all_name_sets(names))


def plain_shows(one, other, thing):
    """Whether any value is a list of turns from one to other, word by word."""
    if type(thing) is not list or len(thing) > 60:
        return False
    net = bare(one)
    for names in thing:
        links = plain_turn(net, names)
        if isinstance(links, int):
            return False
        net = Web.net(links)
    return plain_same(net, bare(other))


def renamed(chance, web):
    """The net with other numbers for its inner joints."""
    inner = web.joints[2:]
    number = dict(zip((0, 1) + inner, [0, 1] + chance.sample(range(2, 100), len(inner))))
    return Web.net([(name, number[u], number[v]) for name, u, v in web.links])


def plain_webs(count, most, seed):
    """Plain webs: nets, and rows and bunches with nets in them."""
    chance = random.Random(seed)
    webs = [Web.always(), Web.never(), Web.link("a"), BRIDGE, CROSSED, -BRIDGE, Web.net([("a", 2, 3)]), Web.row("a", "b", "c"),
            Web.bunch(Web.row("a", "c"), "b"), Web.net([("a", 0, 0), ("b", 1, 1), ("c", 0, 1), ("d", 0, 1)])]
    for at in range(count):
        names = chance.sample(LETTERS[:most], chance.randrange(1, most + 1))
        joints = 3 + at % 4
        webs.append(plain_web(chance, names) if at % 2 else
                    Web.net([(name, chance.randrange(joints), chance.randrange(joints)) for name in names]))
    return webs


class TurnTest(Case):
    def test_told_examples(self):
        row = Web.row("a", "b", "c")
        self.same(row.links, (("a", 0, 2), ("b", 2, 3), ("c", 1, 3)))
        self.same(turn(row, ("a", "b")).links, (("a", 2, 3), ("b", 0, 2), ("c", 1, 3)))
        self.fails(NoTurn, [1], turn, row, ("a", "c"))
        beside = Web.bunch(Web.row("a", "c"), "b")
        self.same(turn(beside, ("a", "c")).links, (("a", 1, 2), ("b", 0, 1), ("c", 0, 2)))
        self.same(same_net(turn(BRIDGE, BRIDGE.names), -BRIDGE), True)

    def test_all_parts(self):
        turned = refused = 0
        for web in plain_webs(80, 5, 111):
            told = frozen([web, web.links])
            for names in all_name_sets(web.names):
                wanted = plain_turn(web, names)
                if isinstance(wanted, int):
                    self.fails(NoTurn, [wanted], turn, web, names)
                    refused += 1
                    continue
                net = turn(web=web, names=names)
                self.same([net.links, net.kind], [wanted, "net"])
                self.assertTrue(turn(net, names) == web.net_of())
                turned += 1
            self.same(frozen([web, web.links]), told)
        self.assertTrue(turned > 200 and refused > 200, (turned, refused))

    def test_nothing_changes_by_a_turn(self):
        chance = random.Random(112)
        for web in plain_webs(40, 6, 113):
            for names in all_name_sets(web.names):
                if not isinstance(plain_turn(web, names), int):
                    net = turn(web, names)
                    self.same([list(ways(net)), list(cuts(net))], [list(ways(web)), list(cuts(web))])
                    values = Values({name: Ratio(chance.randrange(5), 4) for name in web.names})
                    if chance.random() < 0.15:
                        self.same(plain_chance(net, values), plain_chance(web, values))
                        for word in ("joined", "length", "width", "flow", "ease"):
                            self.same(plain_number(word, net, values), plain_number(word, web, values))

    def test_loops_and_idle_links(self):
        net = Web.net([("a", 0, 2), ("b", 2, 1), ("l", 2, 2), ("m", 0, 0)])
        self.same(turn(net, ("a", "m")).links, (("a", 0, 2), ("b", 1, 2), ("l", 2, 2), ("m", 2, 2)))
        self.same(turn(net, ("a", "b", "l", "m")).links, (("a", 1, 2), ("b", 0, 2), ("l", 2, 2), ("m", 1, 1)))
        for names in (("l",), ("m",)):
            self.fails(NoTurn, [1], turn, net, names)
        far = Web.net([("a", 0, 1), ("p", 5, 6), ("q", 6, 7), ("r", 7, 8)])
        self.same(turn(far, ("q",)), Web.net([("a", 0, 1), ("p", 5, 6), ("q", 6, 7), ("r", 7, 8)]))
        self.same(turn(far, ("q", "r")) if len(plain_outer(far, ("q", "r"))) == 2 else None, None)
        self.same(turn(Web.net([("a", 0, 5), ("b", 5, 1), ("p", 5, 9), ("q", 9, 9)]), ("a", "p", "q")).links,
                  (("a", 0, 5), ("b", 1, 5), ("p", 0, 9), ("q", 9, 9)))

    def test_wrong_names(self):
        row = Web.row("a", "b", "c")
        for odd in odd_values() + [("b", "a"), ("a", "a"), ("a", "z"), ["a"], "a", ("a", 1), ("a", None), (), ("open",), (("a",),)]:
            if odd != ("a",) or not isinstance(odd, tuple):
                self.fails(NoTurn, [0], turn, row, odd)
            self.fails(NoTurn, [0], turn, Web.always(), odd)
            self.fails(NoTurn, [0], turn, Web.never(), odd)
            self.fails(NotPlain, ["b"], turn, Web.row("c", "b", "b", "c"), odd)


class SameNetTest(Case):
    def test_drawn_webs(self):
        chance = random.Random(114)
        webs = plain_webs(60, 4, 115)
        equal = 0
        for one in webs:
            for other in webs:
                self.same(same_net(one, other), plain_same(one, other))
                equal += same_net(one, other)
            if one.kind != "open":
                again = renamed(chance, one)
                self.same([same_net(one=one, other=again), same_net(again, one)], [True, True])
        self.assertTrue(equal > len(webs) + 20, equal)

    def test_joints_renamed_and_links_moved(self):
        chance = random.Random(116)
        for web in plain_webs(60, 6, 117):
            if len(web) and len(web.joints) < 8:
                again = renamed(chance, web)
                at = chance.randrange(len(again))
                name, u, v = again.links[at]
                others = [link for link in again.links if link[0] != name]
                for link in ((name, u, chance.choice(again.joints)), (name, 50, v), (name, u, u), ("zz", u, v)):
                    moved = Web.net(others + [link])
                    self.same([same_net(web, moved), same_net(moved, web)], [plain_same(web, moved)] * 2)

    def test_open_shut_and_idle(self):
        idle = Web.net([("a", 2, 3)])
        self.same([same_net(one, other) for one in (Web.always(), Web.never(), idle)
                   for other in (Web.always(), Web.never(), Web.net([("a", 3, 5)]))],
                  [True, False, False, False, True, False, False, False, True])
        self.same([same_net(Web.link("a"), Web.net([("a", 1, 0)])), same_net(Web.row("a", "b"), Web.row("b", "a")),
                   same_net(BRIDGE, CROSSED), same_net(BRIDGE, -BRIDGE), same_net(idle, Web.net([("a", 3, 3)])),
                   same_net(Web.net([("a", 0, 2)]), Web.net([("a", 1, 2)]))], [True, False, False, False, False, False])
        # Loops at one of the ends alone.
        link, near, far = Web.link("a"), Web.net([("a", 0, 1), ("l", 0, 0)]), Web.net([("a", 0, 1), ("l", 1, 1)])
        self.same([same_net(one, other) for one in (link, near, far) for other in (link, near, far)],
                  [True, False, False, False, True, False, False, False, True])
        # Several links between the same joints, and pieces of one form.
        self.same(same_net(Web.net([("a", 2, 3), ("b", 2, 3), ("c", 4, 5), ("d", 4, 5)]),
                           Web.net([("a", 4, 5), ("b", 4, 5), ("c", 2, 9), ("d", 2, 9)])), True)
        self.same(same_net(Web.net([("a", 2, 3), ("b", 2, 3), ("c", 4, 5), ("d", 4, 5)]),
                           Web.net([("a", 4, 5), ("c", 4, 5), ("b", 2, 9), ("d", 2, 9)])), False)

    def test_not_plain(self):
        twice, both = Web.row("b", "b"), Web.bunch("d", "c", "d", "c")
        self.fails(NotPlain, ["b"], same_net, twice, both)
        self.fails(NotPlain, ["c"], same_net, BRIDGE, both)
        self.fails(NotPlain, ["c"], same_net, both, twice)


class TurnsBetweenTest(Case):
    def check(self, one, other):
        told = frozen([one, other])
        found = turns_between(one=one, other=other)
        self.same(frozen([one, other]), told)
        self.same(found is None, not plain_alike(one, other))
        if found is not None:
            self.assertTrue(plain_shows(one, other, found), (one.links, other.links, found))
            self.same(shows_turns(one, other, found), True)
        self.same(turns_between(one, other), found)
        return found is not None

    def test_told_examples(self):
        self.assertTrue(plain_shows(Web.row("a", "b"), Web.row("b", "a"), turns_between(Web.row("a", "b"), Web.row("b", "a"))))
        self.same([shows_turns(Web.row("a", "b"), Web.row("b", "a"), [("a", "b")]), turns_between(BRIDGE, CROSSED)], [True, None])
        self.same(shows_turns(BRIDGE, -BRIDGE, [("a", "b", "c", "d", "m")]), True)
        self.check(BRIDGE, -BRIDGE)

    def test_drawn_webs(self):
        chance = random.Random(118)
        for web in plain_webs(150, 5, 119):
            goal = bare(web)
            for _ in range(chance.randrange(5)):
                parts = [names for names in all_name_sets(goal.names) if not isinstance(plain_turn(goal, names), int)]
                goal = Web.net(plain_turn(goal, chance.choice(parts))) if parts else goal
            self.same(self.check(web, renamed(chance, goal) if goal.kind != "open" else goal), True)

    def test_webs_that_are_mostly_not_alike(self):
        webs = plain_webs(36, 4, 120)
        found = [self.check(one, other) for one in webs for other in webs]
        self.assertTrue(0.03 < sum(found) / len(found) < 0.6, sum(found) / len(found))

    def test_rows_of_five_in_any_order(self):
        for order in itertools.permutations("abcde"):
            self.same(self.check(Web.row(*"abcde"), Web.row(*order)), True)
        nested = Web.row("a", Web.bunch("b", Web.row("c", "d", "e")))
        self.same(self.check(nested, Web.row(Web.bunch(Web.row("e", "c", "d"), "b"), "a")), True)

    def test_idle_links_and_more_than_five(self):
        idle = [("x", 7, 7), ("y", 7, 8), ("z", 2, 9), ("w", 1, 1), ("v", 9, 9)]
        self.same(self.check(Web.net(list(BRIDGE.links) + idle), -BRIDGE), True)
        self.same(self.check(Web.row("a", "b"), Web.net([("b", 0, 2), ("a", 2, 1)] + idle[:2])), True)
        six = Web.row(*"abcdef")
        for one, other in ((six, Web.link("a")), (Web.link("a"), six), (six, six), (Web.always(), six),
                           (BRIDGE & "z", BRIDGE & "z")):
            self.fails(TooMany, [5], turns_between, one, other)
        self.same([turns_between(Web.net([("a", 2, 3)] + idle), Web.never()), turns_between(Web.always(), Web.always()),
                   turns_between(Web.always(), Web.never())], [[], [], None])
        twice = Web.row("b", "b", "a", "c", "d", "e", "f")
        self.fails(NotPlain, ["b"], turns_between, twice, six)
        self.fails(NotPlain, ["b"], turns_between, six, twice)
        self.fails(NotPlain, ["a"], turns_between, Web.row("a", "a"), twice)

    def test_the_list_is_the_callers(self):
        found = turns_between(Web.row("a", "b"), Web.row("b", "a"))
        found.clear()
        self.assertTrue(turns_between(Web.row("a", "b"), Web.row("b", "a")))

    def test_time(self):
        begun = time.process_time()
        turns_between(Web.row(*"abcde"), Web.row(*"cebad"))
        turns_between(Web.row("a", "b", Web.bunch("c", "d", "e")), Web.row(Web.bunch("c", "e", "d"), "a", "b"))
        self.assertTrue(time.process_time() - begun < 4)


class ShowsTurnsTest(Case):
    def test_spoilt_lists(self):
        chance = random.Random(121)
        for web in plain_webs(40, 4, 122):
            for other in (-web, web, Web.row("b", "a"), Web.always()):
                found = turns_between(web, other)
                for thing in (found, [], [()], [web.names], [web.names, web.names], [("a",)], [("b", "a")], [["a", "b"]], ("a",),
                              (found and tuple(found)), found and found + [("zz",)], found and found[:-1]):
                    told = frozen(thing)
                    self.same(shows_turns(web, other, thing), plain_shows(web, other, thing))
                    self.same(frozen(thing), told)
                if found:
                    at = chance.randrange(len(found))
                    for names in spoilt(found[at]):
                        thing = found[:at] + [names] + found[at + 1:]
                        self.same(shows_turns(one=web, other=other, thing=thing), plain_shows(web, other, thing))

    def test_any_value(self):
        for odd in odd_values():
            self.same(shows_turns(BRIDGE, -BRIDGE, odd), False)
            self.same(shows_turns(BRIDGE, BRIDGE, odd), odd == [] and isinstance(odd, list))
            self.same(shows_turns(BRIDGE, BRIDGE, [odd]), plain_shows(BRIDGE, BRIDGE, [odd]))
            self.fails(NotPlain, ["b"], shows_turns, Web.row("b", "b"), Web.row("a", "a"), odd)
            self.fails(NotPlain, ["a"], shows_turns, BRIDGE, Web.row("a", "a"), odd)

    def test_at_most_sixty(self):
        row = Web.row("a", "b")
        for many, wanted in ((0, True), (1, False), (58, True), (59, False), (60, True), (61, False), (62, False)):
            self.same(shows_turns(row, row, [("a", "b")] * many), wanted)
        self.same(shows_turns(row, Web.row("b", "a"), [("a", "b")] * 59), True)
        self.same(shows_turns(row, Web.row("b", "a"), [("a", "b")] * 61), False)

    def test_more_than_five_links(self):
        names = "abcdefghijklmn"
        self.same([shows_turns(Web.row(*names), Web.row(*names[::-1]), [tuple(names)]),
                   shows_turns(Web.row(*names), Web.row(*names), [tuple(names)]),
                   shows_turns(Web.row(*names), Web.row(*"ba", *names[2:]), [("a", "b")])], [True, False, True])

    def test_parts_of_the_bare_web_alone(self):
        web = Web.net([("a", 0, 2), ("b", 2, 1), ("i", 2, 2)])
        self.same([shows_turns(web, Web.row("b", "a"), [("a", "b")]), shows_turns(web, Web.row("b", "a"), [("a", "b", "i")])],
                  [True, False])


if __name__ == "__main__":
    unittest.main()
