"""Points [4], [5], [6] and [21]: webs, rows and bunches, laid webs, the signs of webs."""

import random
import unittest

from samples import LETTERS, Case, all_name_sets, counts, frozen, odd_values, plain_walks, random_web, sample_webs
from sixasone.errors import BadName, BadWeb, NoName, NotTied, TooMany
from sixasone.webs import Web

BRIDGE = Web.net([("a", 0, 2), ("b", 0, 3), ("m", 3, 2), ("c", 2, 1), ("d", 3, 1)])
SOME = sample_webs(25, 5)


def is_name(thing):
    return isinstance(thing, str) and 1 <= len(thing) <= 8 and set(thing) <= set(LETTERS) and \
        thing not in ("open", "shut", "net")


WAYS = {}


def truth(web, names):
    """Whether some walk has names of these alone."""
    if str(web) not in WAYS:
        WAYS[str(web)] = [set(way) for way in counts(web, plain_walks(web))]
    return any(way <= set(names) for way in WAYS[str(web)])


class LinkTest(Case):
    def test_names(self):
        for name in ("a", "abcdefgh", "nets", "opens", "none", "way", "cut", "and"):
            web = Web.link(name)
            self.same([web.kind, web.links, web.parts, web.joints, web.names, str(web)],
                      ["link", ((name, 0, 1),), (), (0, 1), (name,), name])

    def test_no_names(self):
        for odd in odd_values():
            if not is_name(odd):
                self.fails(BadName, [odd], Web.link, odd)
                self.fails(BadName, [odd], Web.link, name=odd)

    def test_open_and_shut(self):
        for web, kind in ((Web.always(), "open"), (Web.never(), "shut")):
            self.same([web.kind, web.links, web.parts, web.joints, web.names, len(web), abs(web), web.is_plain,
                       web.is_tied, str(web)], [kind, (), (), (0, 1), (), 0, 0, True, True, kind])


class NetTest(Case):
    def test_links_are_ordered(self):
        web = Web.net(links=(("b", 1, 0), ("a", 5, 2), ("b", 0, 1), ("a", 3, 3), ("a", 0, 99)))
        self.same(web.links, (("a", 0, 99), ("a", 2, 5), ("a", 3, 3), ("b", 0, 1), ("b", 0, 1)))
        self.same([web.kind, web.joints, web.names, len(web), abs(web), web.is_plain, web.is_tied, web.parts],
                  ["net", (0, 1, 2, 3, 5, 99), ("a", "b"), 5, 2, False, False, ()])

    def test_joints_are_compared_as_numbers(self):
        web = Web.net([("a", 10, 9), ("a", 9, 2), ("ab", 0, 1), ("a", 2, 10), ("aa", 1, 0)])
        self.same(web.links, (("a", 2, 9), ("a", 2, 10), ("a", 9, 10), ("aa", 0, 1), ("ab", 0, 1)))

    def test_no_links(self):
        self.same([Web.net([]) == Web.never(), Web.net(()) == Web.never()], [True, True])

    def test_no_list(self):
        for odd in odd_values():
            if not isinstance(odd, (list, tuple)):
                self.fails(BadWeb, [None], Web.net, odd)

    def test_wrong_links(self):
        wrong = [odd for odd in odd_values() if odd != ()] + [
            ["a", 0, 1], ("a", 0), ("a", 0, 1, 2), ("a", 0, 100), ("a", -1, 0), ("a", True, 0), ("a", 0, False), (0, 0, 1),
            ("A", 0, 1), ("net", 0, 1), (None, 0, 1), ("a", "0", 1), ("a", None, 1), ("a", (0,), 1), ()]
        for odd in wrong:
            self.fails(BadWeb, [0], Web.net, [odd])
            self.fails(BadWeb, [2], Web.net, (("a", 0, 1), ("a", 99, 0), odd, odd))

    def test_fourteen_and_fifteen(self):
        links = [("a", 0, 1)] * 14
        self.same(len(Web.net(links)), 14)
        self.fails(TooMany, [14], Web.net, links + [("a", 0, 1)])
        self.fails(TooMany, [14], Web.net, [None] * 15)
        self.fails(BadWeb, [13], Web.net, links[:13] + [None])

    def test_the_list_stays_and_counts_no_more(self):
        links = [("b", 1, 0), ("a", 0, 1)]
        web = Web.net(links)
        self.same(links, [("b", 1, 0), ("a", 0, 1)])
        links.append(("c", 0, 1))
        self.same(web.names, ("a", "b"))


class RowTest(Case):
    def test_rows_in_rows(self):
        self.assertEqual(Web.row("a", Web.row("b", "c")), Web.row("a", "b", "c"))
        self.assertEqual(Web.bunch(Web.bunch("a", "b"), "c"), Web.bunch("a", "b", "c"))
        self.assertEqual([str(part) for part in Web.row("a", Web.bunch("b", "c"), Web.link("d")).parts],
                         ["a", "(b | c)", "d"])
        self.assertNotEqual(Web.row("a", "b"), Web.row("b", "a"))

    def test_open_and_shut_parts(self):
        always, never = Web.always(), Web.never()
        self.same([Web.row().kind, Web.bunch().kind], ["open", "shut"])
        self.same([Web.row(always, always).kind, Web.bunch(never, never).kind], ["open", "shut"])
        self.same([str(Web.row("a", always)), str(Web.bunch(never, "a", never))], ["a", "a"])
        self.same([Web.row("a", never, always).kind, Web.bunch(always, "a", never).kind], ["shut", "open"])
        self.same([Web.row("a", never).names, Web.bunch("a", always).names], [(), ()])
        self.same([Web.row(Web.net([("a", 0, 1)])).kind, Web.row(Web.bunch("a", "b")).kind], ["net", "bunch"])
        self.assertEqual(Web.row(always, Web.bunch(never, Web.row("a", "b")), "c"), Web.row("a", "b", "c"))

    def test_wrong_parts_ahead_of_too_many(self):
        seven = Web.row(*"abcdefg")
        for make in (Web.row, Web.bunch):
            for odd in odd_values():
                if not is_name(odd) and not isinstance(odd, Web):
                    self.fails(BadWeb, [0], make, odd)
                    self.fails(BadWeb, [1], make, "a", odd, odd)
                    self.fails(BadWeb, [3], make, seven, seven, seven, odd)

    def test_too_many(self):
        seven = Web.net([("a", 0, 1)] * 7)
        for make in (Web.row, Web.bunch):
            self.same(len(make(seven, seven)), 14)
            self.fails(TooMany, [14], make, seven, "a", seven)
            self.fails(TooMany, [14], make, *(["a"] * 15))
        self.same(Web.row(seven, "a", seven, Web.never()).kind, "shut")
        self.same(Web.bunch(seven, "a", seven, Web.always()).kind, "open")
        self.fails(TooMany, [14], Web.row, seven, "a", seven, Web.always())

    def test_signs(self):
        web = Web.bunch("b", "c")
        self.assertEqual("a" & web & "d", Web.row("a", web, "d"))
        self.assertEqual("a" | web | web, Web.bunch("a", "b", "c", "b", "c"))
        self.assertEqual(web & BRIDGE, Web.row(web, BRIDGE))
        for odd in odd_values():
            if not is_name(odd) and not isinstance(odd, Web):
                self.fails(BadWeb, [1], lambda: web & odd)
                self.fails(BadWeb, [0], lambda: odd & web)
                self.fails(BadWeb, [1], lambda: web | odd)
                self.fails(BadWeb, [0], lambda: odd | web)
        fourteen = Web.row(*(["a"] * 14))
        self.fails(TooMany, [14], lambda: fourteen & "a")
        self.fails(TooMany, [14], lambda: "a" | fourteen)

    def test_signs_that_bind(self):
        web = elder = Web.link("a")
        web &= "b"
        web |= Web.link("c")
        self.same([str(web), str(elder)], ["((a & b) | c)", "a"])
        web -= "a"
        self.same(str(web), "c")
        web //= "c"
        self.same(web.kind, "open")


class LaidTest(Case):
    def test_a_row_takes_the_joint_behind_a_part_first(self):
        self.same((BRIDGE & "z").links,
                  (("a", 0, 3), ("b", 0, 4), ("c", 2, 3), ("d", 2, 4), ("m", 3, 4), ("z", 1, 2)))
        self.same(("z" & BRIDGE).links,
                  (("a", 2, 3), ("b", 2, 4), ("c", 1, 3), ("d", 1, 4), ("m", 3, 4), ("z", 0, 2)))

    def test_bunches_and_nets_within(self):
        net = Web.net([("p", 0, 50), ("q", 50, 7), ("r", 7, 1), ("s", 90, 90)])
        web = Web.bunch(Web.row("a", "b"), net, Web.row("c", net, "d"))
        self.same(web.links, (
            ("a", 0, 2), ("b", 1, 2), ("c", 0, 6), ("d", 1, 7), ("p", 0, 4), ("p", 6, 9), ("q", 3, 4), ("q", 8, 9),
            ("r", 1, 3), ("r", 7, 8), ("s", 5, 5), ("s", 10, 10)))
        self.same(web.joints, tuple(range(11)))

    def test_a_net_by_itself_keeps_its_numbers(self):
        self.same(Web.net([("a", 50, 0), ("b", 50, 1)]).links, (("a", 0, 50), ("b", 1, 50)))

    def test_net_of(self):
        for web in SOME:
            if web.kind == "open":
                self.same(web.net_of(), web)
            else:
                self.assertEqual(web.net_of(), Web.net(web.links))
                self.same([web.net_of().links, web.net_of().joints], [web.links, web.joints])
                self.same(counts(web.net_of(), plain_walks(web.net_of())), counts(web, plain_walks(web)))

    def test_rows_and_bunches_join_as_they_say(self):
        for one, other in zip(SOME, SOME[7:]):
            for names in all_name_sets(sorted(set(one.names) | set(other.names)))[::5]:
                self.same(truth(one & other, names), truth(one, names) and truth(other, names))
                self.same(truth(one | other, names), truth(one, names) or truth(other, names))


class AskingTest(Case):
    def test_numbers_and_names(self):
        for web in SOME:
            names = [link[0] for link in web.links]
            self.same([len(web), abs(web), web.names], [len(names), len(set(names)), tuple(sorted(set(names)))])
            self.same([web.is_plain, web.is_tied], [len(names) == len(set(names)), "[" not in str(web)])
            self.same(web.joints, tuple(sorted({0, 1} | {joint for link in web.links for joint in link[1:]})))

    def test_holding_a_name(self):
        for odd in odd_values() + ["a", "m"]:
            self.same(odd in BRIDGE, isinstance(odd, str) and odd in ("a", "b", "c", "d", "m"))
            self.same(odd in Web.always(), False)

    def test_equal(self):
        texts = {}
        for web in SOME + [Web.link("a"), Web.net([("a", 0, 1)]), Web.row("a", "b"), Web.bunch("a", "b")]:
            for text, other in texts.items():
                self.same([web == other, web != other], [text == str(web), text != str(web)])
            texts[str(web)] = web
            self.same([web == odd for odd in odd_values() if not isinstance(odd, Web)], [False] * sum(
                not isinstance(odd, Web) for odd in odd_values()))
        self.same(Web.net([("a", 0, 2), ("b", 1, 2)]) == Web.net([("b", 2, 1), ("a", 2, 0)]), True)
        self.same(Web.net([("a", 0, 2), ("b", 1, 2)]) == Web.net([("a", 0, 3), ("b", 1, 3)]), False)

    def test_most(self):
        self.same(Web.MOST, 14)


class ChangingTest(Case):
    def test_dual(self):
        self.same([(~Web.always()).kind, (~Web.never()).kind, str(~Web.link("a"))], ["shut", "open", "a"])
        web = Web.row("c", Web.bunch("a", Web.row("b", "a")), "d")
        self.same(str(~web), "(c | (a & (b | a)) | d)")
        for web in SOME:
            if not web.is_tied:
                self.fails(NotTied, [], lambda: ~web)
                continue
            self.assertEqual(~~web, web)
            for names in all_name_sets(web.names):
                others = [name for name in web.names if name not in names]
                self.same(truth(~web, names), not truth(web, others))

    def test_ends_exchanged(self):
        web = Web.row("a", Web.net([("b", 0, 2), ("c", 2, 1), ("d", 1, 1)]), Web.bunch("e", Web.row("f", "g")))
        self.same(str(-web), "((e | (g & f)) & [1-b-2 0-c-2 0-d-0] & a)")
        for web in SOME:
            self.assertEqual(- -web, web)
            self.same(counts(-web, plain_walks(-web)), counts(web, plain_walks(web)))

    def test_taken_out_and_made_sure(self):
        for web in SOME:
            for name in web.names:
                for changed, more in ((web - name, ()), (web // name, (name,))):
                    self.same(name in changed, False)
                    for names in all_name_sets([other for other in web.names if other != name]):
                        self.same(truth(changed, names), truth(web, names + more))

    def test_no_such_name(self):
        for odd in odd_values() + ["e"]:
            self.fails(NoName, [odd], lambda: BRIDGE - odd)
            self.fails(NoName, [odd], lambda: BRIDGE // odd)
            self.fails(NoName, [odd], BRIDGE.put, odd, None)
        self.fails(NoName, ["a"], lambda: Web.row("a", Web.never()) - "a")

    def test_links_rows_and_bunches(self):
        self.same([(Web.link("a") - "a").kind, (Web.link("a") // "a").kind], ["shut", "open"])
        web = Web.row("a", Web.bunch("b", Web.row("c", "a")))
        self.same([str(web - "a"), str(web // "a"), str(web - "b"), str(web // "b"), str(web // "c")],
                  ["shut", "(b | c)", "(a & c & a)", "a", "(a & (b | a))"])

    def test_nets(self):
        self.same([str(BRIDGE // "a"), str(BRIDGE // "m"), str(BRIDGE // "c")],
                  ["[0-b-3 0-c-1 1-d-3 0-m-3]", "[0-a-2 0-b-2 1-c-2 1-d-2]", "[0-a-1 0-b-3 1-d-3 1-m-3]"])
        self.same([(BRIDGE // "a" // "c").kind, str(BRIDGE - "m" - "a")], ["open", "[0-b-3 1-c-2 1-d-3]"])
        net = Web.net([("a", 5, 9), ("a", 9, 3), ("a", 7, 5), ("b", 9, 7), ("c", 0, 9), ("c", 1, 20)])
        self.same(str(net // "a"), "[3-b-3 0-c-3 1-c-20]")
        self.same((net // "c").kind, "net")
        self.same((Web.net([("a", 0, 4), ("b", 2, 2), ("a", 4, 1)]) // "a").kind, "open")
        self.same((Web.net([("a", 2, 2)]) // "a").kind, "shut")
        self.same((Web.net([("a", 0, 2)]) // "a").kind, "shut")
        self.same((Web.net([("a", 0, 1)]) - "a").kind, "shut")

    def test_several_names(self):
        for web in SOME:
            for names in all_name_sets(web.names + ("zzz",))[::3]:
                out, made = web, web
                for name in names:
                    out = out - name if name in out else out
                    made = made // name if name in made else made
                self.assertEqual(web.without(*names), out)
                self.assertEqual(web.sure(*names[::-1]), made)
        for ask in (BRIDGE.without, BRIDGE.sure):
            self.assertEqual(ask(), BRIDGE)
            self.assertEqual(ask("zzz", "zzz"), BRIDGE)
            for odd in odd_values():
                if not is_name(odd):
                    self.fails(BadName, [odd], ask, odd)
                    self.fails(BadName, [odd], ask, "a", "zzz", odd, None)


class PutTest(Case):
    def test_what_it_joins(self):
        others = [Web.always(), Web.never(), Web.link("a"), Web.link("x"), Web.row("x", "y"), Web.bunch("x", "a"), BRIDGE,
                  Web.net([("x", 0, 2), ("y", 3, 4)])]
        for web in SOME:
            for name in web.names[:2]:
                for other in others:
                    if len(web) + sum(link[0] == name for link in web.links) * (len(other) - 1) > 7:
                        continue
                    put = web.put(name, other)
                    for names in all_name_sets(sorted(set(put.names) | set(web.names) | set(other.names)))[::3]:
                        kept = [one for one in names if one != name] + [name] * truth(other, names)
                        self.same(truth(put, names), truth(web, kept))

    def test_links_rows_and_bunches(self):
        self.assertEqual(Web.link("a").put("a", BRIDGE), BRIDGE)
        self.same(str(Web.row("a", Web.bunch("b", "a")).put("a", Web.bunch("a", "b"))), "((a | b) & (b | a | b))")
        self.same(str(Web.row("a", "b").put(name="a", other="c")), "(c & b)")
        self.same(str(Web.row("a", "b").put("a", Web.row("c", "a"))), "(c & a & b)")
        self.same(str(Web.row("a", "b").put("a", Web.never())), "shut")
        self.same(str(Web.row("a", "b").put("a", Web.always())), "b")

    def test_numbers_of_joints_in_a_net(self):
        net = Web.net([("x", 5, 0), ("x", 1, 5), ("y", 2, 3)])
        self.same(net.put("x", Web.row("p", "q")).links,
                  (("p", 0, 4), ("p", 1, 6), ("q", 4, 5), ("q", 5, 6), ("y", 2, 3)))
        self.same(net.put("y", Web.row("p", "q")).links,
                  (("p", 2, 4), ("q", 3, 4), ("x", 0, 5), ("x", 1, 5)))
        inner = Web.net([("p", 9, 0), ("q", 9, 4), ("r", 4, 1), ("s", 30, 30)])
        self.same(net.put("x", inner).links, (
            ("p", 0, 6), ("p", 1, 9), ("q", 4, 6), ("q", 8, 9), ("r", 4, 5), ("r", 5, 8), ("s", 7, 7), ("s", 10, 10),
            ("y", 2, 3)))

    def test_loops(self):
        self.same(Web.net([("x", 3, 3), ("a", 0, 1)]).put("x", Web.row("p", "q")).links,
                  (("a", 0, 1), ("p", 2, 3), ("q", 2, 3)))

    def test_open_and_shut_in_a_net(self):
        for web in SOME:
            for name in web.names:
                self.assertEqual(web.put(name, Web.always()), web // name)
                self.assertEqual(web.put(name, Web.never()), web - name)
        self.same(Web.net([("x", 0, 1)]).put("x", Web.never()).kind, "shut")
        self.same(Web.net([("x", 0, 2), ("x", 2, 1)]).put("x", Web.always()).kind, "open")

    def test_wrong_others(self):
        for odd in odd_values():
            if not is_name(odd) and not isinstance(odd, Web):
                self.fails(BadWeb, [1], BRIDGE.put, "a", odd)
        twelve = Web.row(*(["p"] * 10))
        self.same(len(BRIDGE.put("a", twelve)), 14)
        self.fails(TooMany, [14], BRIDGE.put, "a", Web.row(twelve, "p"))
        self.fails(TooMany, [14], Web.row("x", "x").put, "x", Web.bunch(*(["p"] * 8)))
        self.fails(BadWeb, [1], Web.row(*(["x"] * 14)).put, "x", None)


class SignsTest(Case):
    def test_never_worse(self):
        for one in SOME:
            for other in SOME[::3]:
                names = sorted(set(one.names) | set(other.names))
                wanted = all(truth(other, some) for some in all_name_sets(names) if truth(one, some))
                back = all(truth(one, some) for some in all_name_sets(names) if truth(other, some))
                self.same([one <= other, one >= other, one < other, one > other],
                          [wanted, back, wanted and not back, back and not wanted])

    def test_ends(self):
        for web in SOME:
            self.same([Web.never() <= web, web <= Web.always(), web <= web, web < web], [True, True, True, False])
        self.same([Web.always() <= Web.link("a"), Web.link("a") <= Web.never()], [False, False])
        self.same([Web.link("a") < Web.always(), Web.net([("a", 2, 3)]) >= Web.never()], [True, True])


class NothingChangesTest(Case):
    def test_elder_webs_stay(self):
        chance = random.Random(5)
        for _ in range(30):
            web = random_web(chance, 3, "abc")
            told = frozen([str(web), web.links, web.names, web.joints, web.parts])
            others = [-web, web & "x", "x" | web, web.put(web.names[0], web), web - web.names[0], web // web.names[0],
                      web.without("a"), web.sure("b"), web.net_of(), web <= web]
            if web.is_tied:
                others.append(~web)
            self.same(frozen([str(web), web.links, web.names, web.joints, web.parts]), told)


if __name__ == "__main__":
    unittest.main()
