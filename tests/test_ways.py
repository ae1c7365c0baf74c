"""Points [7], [9] and [10]: walks and ways."""

import inspect
import random
import unittest

from samples import LETTERS, Case, all_name_sets, counts, least_sets, odd_values, plain_walks, random_net, sample_webs, spoilt
from sixasone.ways import is_way, joined, least_ways, walk_of, way_in, ways
from sixasone.webs import Web

BRIDGE = Web.net([("a", 0, 2), ("b", 0, 3), ("m", 3, 2), ("c", 2, 1), ("d", 3, 1)])
WEBS = sample_webs(60, 6)


class WaysTest(Case):
    def test_told_examples(self):
        self.same(list(ways(BRIDGE)), [("a", "c"), ("b", "d"), ("a", "d", "m"), ("b", "c", "m")])
        twice = Web.bunch(Web.row("x", "x"), Web.row("x", "y"))
        self.same([list(ways(twice)), least_ways(twice)], [[("x", "x"), ("x", "y")], [("x",)]])
        self.same(list(ways(Web.bunch("x", "x"))), [("x",)])
        self.same(list(ways(Web.net([("a", 2, 3)]))), [])

    def test_open_and_shut(self):
        self.same([list(ways(Web.always())), list(ways(Web.never()))], [[()], []])
        self.same([least_ways(Web.always()), least_ways(Web.never())], [[()], []])
        self.same([walk_of(Web.always(), ()), walk_of(Web.never(), ())], [(), None])
        self.same([is_way(Web.always(), ()), is_way(Web.never(), ())], [True, False])
        self.same([joined(Web.always(), []), joined(Web.never(), ["a"])], [True, False])
        self.same([way_in(Web.always(), ()), way_in(Web.never(), ("a",))], [(), None])

    def test_against_a_plain_search(self):
        for web in WEBS:
            walks = plain_walks(web)
            found = counts(web, walks)
            self.same(list(ways(web)), found)
            self.same(least_ways(web), least_sets(found))
            for way in found:
                fitting = [walk for walk in walks if counts(web, [walk]) == [way]]
                self.same(walk_of(web, way), min(fitting))

    def test_order(self):
        web = Web.bunch("b", Web.row("a", "a"), Web.row("ab", "c"), Web.row("a", "bb"), Web.row("a", "b", "a"), "z")
        self.same(list(ways(web)), [("b",), ("z",), ("a", "a"), ("a", "bb"), ("ab", "c"), ("a", "a", "b")])
        self.same(least_ways(web), [("a",), ("b",), ("z",), ("ab", "c")])

    def test_a_generator(self):
        self.assertTrue(inspect.isgenerator(ways(BRIDGE)))
        self.same(next(ways(web=BRIDGE)), ("a", "c"))

    def test_fourteen_places(self):
        thick = Web.row(*[Web.bunch(*part) for part in ("abc", "def", "ghi", "jkl", "mn")])
        self.same(len(list(ways(thick))), 3 ** 4 * 2)
        self.same(len(list(ways(Web.row(*LETTERS[:14])))), 1)
        chance = random.Random(9)
        for _ in range(60):
            web = random_net(chance, 14, chance.randrange(3, 9), LETTERS[:14])
            self.same(list(ways(web)), self.counted(web))

    def counted(self, web):
        """The ways of a plain web, by walking from each joint to the next ones."""
        found = []

        def go(joint, passed, names):
            if joint == 1:
                found.append(tuple(sorted(names)))
                return
            for name, u, v in web.links:
                for near, far in ((u, v), (v, u)):
                    if near == joint and far not in passed:
                        go(far, passed + [far], names + [name])

        go(0, [0], [])
        return sorted(set(found), key=lambda way: (len(way), way))


class JoinedTest(Case):
    def test_told_examples(self):
        self.same([joined(BRIDGE, ["a", "m", "d"]), joined(BRIDGE, ["a", "m"])], [True, False])
        self.same(way_in(BRIDGE, ["m", "d", "a", "c"]), ("a", "c"))

    def test_all_names(self):
        for web in WEBS:
            found = counts(web, plain_walks(web))
            for names in all_name_sets(web.names + ("zzz",)):
                within = [way for way in found if set(way) <= set(names)]
                self.same(joined(web, list(names[::-1]) + list(names)), bool(within))
                self.same(way_in(web, names), within[0] if within else None)

    def test_lists_stay(self):
        names = ["m", "a", "d", "a"]
        joined(BRIDGE, names), way_in(BRIDGE, names=names)
        self.same(names, ["m", "a", "d", "a"])


class IsWayTest(Case):
    def test_wrong_values(self):
        for web in WEBS[:20]:
            found = counts(web, plain_walks(web))
            for odd in odd_values() + [other for way in found for other in spoilt(way)]:
                wanted = isinstance(odd, tuple) and odd in found
                self.same(is_way(web, odd), wanted)
                if not wanted:
                    self.same(walk_of(web, odd), None)
            for way in found:
                self.same(is_way(web, thing=way), True)
        self.same(is_way(BRIDGE, ("c", "a")), False)
        self.same(is_way(Web.bunch("x", "x"), ("x", "x")), False)


class WalkOfTest(Case):
    def test_told_examples(self):
        self.same(walk_of(BRIDGE, ("b", "c", "m")), (1, 4, 2))
        self.same(walk_of(Web.bunch("x", "x"), ("x",)), (0,))

    def test_the_least_one(self):
        self.same(walk_of(Web.row("x", "x"), ("x", "x")), (0, 1))
        self.same(walk_of(Web.net([("x", 2, 1), ("x", 0, 2), ("x", 0, 2)]), ("x", "x")), (0, 2))
        self.same(walk_of(BRIDGE, ["a", "c"]), None)
        self.same(walk_of(BRIDGE, ("a", "b")), None)


class NothingChangesTest(Case):
    def test_lists_belong_to_the_caller(self):
        least_ways(BRIDGE).clear()
        self.same(least_ways(BRIDGE)[0], ("a", "c"))


if __name__ == "__main__":
    unittest.main()
