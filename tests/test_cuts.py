"""Points [8], [9] and [10]: sides and cuts."""

import inspect
import random
import unittest

from samples import LETTERS, Case, all_name_sets, counts, least_sets, odd_values, plain_cuts, plain_walks, random_net
from samples import sample_webs, spoilt
from sixasone.cuts import cut_in, cuts, is_cut, least_cuts
from sixasone.ways import joined, least_ways, ways
from sixasone.webs import Web

BRIDGE = Web.net([("a", 0, 2), ("b", 0, 3), ("m", 3, 2), ("c", 2, 1), ("d", 3, 1)])
WEBS = sample_webs(60, 6)


class CutsTest(Case):
    def test_told_examples(self):
        self.same(list(cuts(BRIDGE)), [("a", "b"), ("c", "d"), ("a", "d", "m"), ("b", "c", "m")])
        twice = Web.bunch(Web.row("x", "x"), Web.row("x", "y"))
        self.same([list(cuts(twice)), least_cuts(twice)], [[("x", "x"), ("x", "y")], [("x",)]])
        self.same(list(cuts(Web.bunch("x", "x"))), [("x", "x")])
        self.same(list(cuts(Web.net([("a", 2, 3)]))), [()])

    def test_open_and_without_a_way(self):
        self.same([list(cuts(Web.always())), least_cuts(Web.always()), cut_in(Web.always(), ["a"])], [[], [], None])
        for web in (Web.never(), Web.net([("a", 0, 2), ("b", 1, 1)]), Web.net([("a", 0, 0)])):
            self.same([list(cuts(web)), least_cuts(web), cut_in(web, [])], [[()], [()], ()])
            self.same([is_cut(web, ()), is_cut(web, []), is_cut(web, ("a",))], [True, False, False])
        self.same(is_cut(Web.always(), ()), False)

    def test_against_all_sides(self):
        for web in WEBS:
            found = counts(web, plain_cuts(web))
            self.same(list(cuts(web)), found)
            self.same(least_cuts(web), least_sets(found))

    def test_idle_links_stand_in_no_cut(self):
        web = Web.net([("a", 0, 1), ("i", 0, 2), ("j", 2, 2), ("k", 2, 3), ("l", 1, 4)])
        self.same(list(cuts(web)), [("a",)])

    def test_order(self):
        web = Web.row("b", Web.bunch("a", "a"), Web.bunch("ab", "c"), Web.bunch("a", "bb"), "z")
        self.same(list(cuts(web)), [("b",), ("z",), ("a", "a"), ("a", "bb"), ("ab", "c")])
        self.same(least_cuts(web), [("a",), ("b",), ("z",), ("ab", "c")])

    def test_a_generator(self):
        self.assertTrue(inspect.isgenerator(cuts(BRIDGE)))
        self.same(next(cuts(web=BRIDGE)), ("a", "b"))

    def test_fourteen_places(self):
        thick = Web.bunch(*[Web.row(*part) for part in ("abc", "def", "ghi", "jkl", "mn")])
        self.same(len(list(cuts(thick))), 3 ** 4 * 2)
        self.same(len(list(cuts(Web.row(*LETTERS[:14])))), 14)
        chance = random.Random(9)
        for _ in range(25):
            web = random_net(chance, 14, chance.randrange(3, 9), LETTERS[:14])
            self.same(list(cuts(web)), counts(web, plain_cuts(web)))


class WaysAndCutsTest(Case):
    def test_each_way_meets_each_cut(self):
        for web in WEBS:
            for way in ways(web):
                for cut in cuts(web):
                    self.assertTrue(set(way) & set(cut))

    def test_joined_unless_a_cut_is_left(self):
        for web in WEBS:
            for names in all_name_sets(web.names):
                others = [name for name in web.names if name not in names]
                self.same(joined(web, names), cut_in(web, others) is None)

    def test_least_meeting_sets(self):
        for web in WEBS:
            for found, others in ((least_cuts(web), least_ways(web)), (least_ways(web), least_cuts(web))):
                meeting = [names for names in all_name_sets(web.names) if all(set(names) & set(one) for one in others)]
                self.same(found, least_sets(meeting))

    def test_cuts_are_the_ways_of_the_dual(self):
        for web in WEBS:
            if web.is_tied:
                self.same([list(cuts(web)), list(ways(web))], [list(ways(~web)), list(cuts(~web))])

    def test_a_net_of_the_links_has_the_same(self):
        for web in WEBS:
            self.same([list(ways(web.net_of())), list(cuts(web.net_of()))], [list(ways(web)), list(cuts(web))])


class CutInTest(Case):
    def test_told_example(self):
        self.same(cut_in(BRIDGE, ["b", "d", "m", "c"]), ("c", "d"))

    def test_all_names(self):
        for web in WEBS:
            found = counts(web, plain_cuts(web))
            for names in all_name_sets(web.names + ("zzz",)):
                within = [cut for cut in found if set(cut) <= set(names)]
                self.same(cut_in(web, list(names[::-1]) + list(names)), within[0] if within else None)

    def test_the_list_stays(self):
        names = ["m", "a", "d", "a"]
        cut_in(BRIDGE, names=names)
        self.same(names, ["m", "a", "d", "a"])
        least_cuts(BRIDGE).clear()
        self.same(len(least_cuts(BRIDGE)), 4)


class IsCutTest(Case):
    def test_wrong_values(self):
        for web in WEBS[:20]:
            found = counts(web, plain_cuts(web))
            for odd in odd_values() + [other for cut in found for other in spoilt(cut)]:
                self.same(is_cut(web, odd), isinstance(odd, tuple) and odd in found)
            for cut in found:
                self.same(is_cut(web, thing=cut), True)
        self.same(is_cut(Web.bunch("x", "x"), ("x",)), False)


if __name__ == "__main__":
    unittest.main()
