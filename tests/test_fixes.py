"""Stage 12: the least names that are made sure."""

import itertools
import random
import time
import unittest

from drawn import HIGH, LOW, never_worse, plain_apart, plain_pair, web_pairs
from samples import LETTERS, Case, all_name_sets, frozen, odd_values, random_net, spoilt
from sixasone.errors import TooMany
from sixasone.fixes import least_sure, shows_least_sure
from sixasone.webs import Web
from test_lookers import plain_shows_apart

A, B = "b" | ("a" & Web.link("c")), "a" & ("b" | Web.link("c"))


def plain_least_sure(one, other):
    """The pair by all ascending tuples of names in order."""
    reasons = []
    for names in all_name_sets(other.names):
        better = other.sure(*names)
        if never_worse(one, better):
            return names, reasons
        reasons.append((names, *plain_apart(one, better)))
    return None, reasons


def plain_shows(one, other, names, reasons):
    """Whether any two values are such, word by word."""
    sets = all_name_sets(other.names)
    if names is not None:
        if type(names) is not tuple or any(type(name) is not str for name in names) or names not in sets:
            return False
        if not never_worse(one, other.sure(*names)):
            return False
        sets = sets[:sets.index(names)]
    if type(reasons) is not list or len(reasons) != len(sets):
        return False
    for some, row in zip(sets, reasons):
        if type(row) is not tuple or len(row) != 3 or frozen(row[0]) != frozen(some):
            return False
        if not plain_shows_apart(one, other.sure(*some), row[1], row[2]):
            return False
    return True


def drawn_pairs(count, seed):
    return web_pairs(count, 4, seed) + [plain_pair(random.Random(seed + at), 5) for at in range(count // 4)]


class LeastSureTest(Case):
    def test_told_example(self):
        self.same(least_sure(A, B), (("a",), [((), ("b",), ("a",))]))

    def test_against_all_tuples(self):
        told = {}
        for one, other in drawn_pairs(160, 181):
            before = frozen([one, other])
            found = least_sure(one=one, other=other)
            self.same(found, plain_least_sure(one, other))
            self.same([least_sure(one, other), frozen([one, other])], [found, before])
            self.same(shows_least_sure(one, other, *found), True)
            many = None if found[0] is None else len(found[0])
            told[many] = told.get(many, 0) + 1
        self.assertTrue({None, 0, 1, 2} <= set(told) and min(told[None], told[1], told[2]) > 5, told)

    def test_open_and_shut(self):
        always, never = Web.always(), Web.never()
        self.same([least_sure(always, never), least_sure(never, never), least_sure(LOW, always), least_sure(always, always)],
                  [(None, [((), (), ())]), ((), []), ((), []), ((), [])])
        self.same(least_sure(always, Web.link("a")), (("a",), [((), (), ("a",))]))
        self.same(least_sure(always, Web.net([("a", 2, 3)])), (None, [((), (), ()), (("a",), (), ())]))
        self.same(least_sure(LOW, Web.row("x", "x")), (("x",), [((), ("a", "b"), ("x",))]))

    def test_names_at_several_places(self):
        other = Web.bunch(Web.row("x", "x", "y"), Web.row("y", "z"))
        for one in (Web.link("x"), Web.link("y"), Web.link("z"), Web.row("x", "z"), Web.bunch("x", "z"), Web.always()):
            self.same(least_sure(one, other), plain_least_sure(one, other))

    def test_eight_and_nine_names(self):
        eight, nine = Web.row(*LETTERS[:8]), Web.row(*LETTERS[:9])
        found = least_sure(Web.always(), eight)
        self.same([found[0], len(found[1]), found[1][9]], [tuple(LETTERS[:8]), 255, (("a", "b"), (), ("c",))])
        self.same(shows_least_sure(Web.always(), eight, *found), True)
        for one in (Web.always(), nine, LOW):
            self.fails(TooMany, [8], least_sure, one, nine)
            for odd in odd_values():
                self.fails(TooMany, [8], shows_least_sure, one, nine, odd, odd)
        # Places and the first web do not matter.
        self.same(least_sure(nine, Web.row(*"aabbccddeeffgg")), ((), []))
        self.same(least_sure(Web.link("z"), Web.row(*"hhggffeeddccba"))[0], tuple("abcdefgh"))

    def test_time(self):
        pairs = [Web.bunch(*LETTERS[at:at + 2]) for at in range(0, 14, 2)]
        other = Web.bunch(*[Web.row(*some) for some in ("hgf", "ed", "cba", "ah", "bg", "de")])
        chance = random.Random(182)
        for one in (Web.row(*pairs), Web.always(), random_net(chance, 14, 6, LETTERS[:14])):
            for web in (other, ~other, random_net(chance, 14, 6, LETTERS[:8])):
                begun = time.process_time()
                self.same(shows_least_sure(one, web, *least_sure(one, web)), True)
                self.assertTrue(time.process_time() - begun < 12)

    def test_the_list_is_the_callers(self):
        least_sure(A, B)[1].clear()
        self.same(len(least_sure(A, B)[1]), 1)


class ShowsLeastSureTest(Case):
    def test_of_another_hand(self):
        self.same([shows_least_sure(A, B, ("a",), [((), way, cut)]) for way, cut in
                   ((("b",), ("a",)), (("b",), ("a", "c")), (("a", "b"), ("c",)), (("b", "z"), ("a",)), (("a", "c"), ("a",)),
                    (("b",), ("c",)), (("b",), ()), ((), ("a",)), (["b"], ("a",)), (("b",), ["a"]))],
                  [True, True, False, True, False, False, False, False, False, False])
        row = [((), ("b",), ("a",))]
        self.same([shows_least_sure(one=A, other=B, names=names, reasons=row) for names in
                   (("a",), ("b",), (), None, ("a", "b"), ["a"], "a", ("z",), ("a", "a"), (1,), (("a",),))], [True] + [False] * 10)
        # Names that would do, but are not the first.
        more = row + [(("a",), ("b",), ("c",))]
        self.same([shows_least_sure(A, B, ("b",), more), shows_least_sure(A, B, ("a",), more), shows_least_sure(A, B, ("a",), [])],
                  [False, False, False])

    def test_names_that_will_not_do(self):
        # Each name ahead is told apart rightly, but these names are not enough either.
        checked = 0
        for one, other in drawn_pairs(60, 185):
            _, reasons = least_sure(one, other)
            for at, row in enumerate(reasons):
                self.same(shows_least_sure(one, other, row[0], reasons[:at]), False)
                checked += 1
        self.assertTrue(checked > 40, checked)

    def test_all_other_ways_and_cuts(self):
        for one, other in drawn_pairs(24, 183):
            names, reasons = least_sure(one, other)
            if not 0 < len(reasons) < 5:
                continue
            some = all_name_sets(sorted(set(one.names + other.names))[:4])
            for way, cut in itertools.product(some, repeat=2):
                at = (len(way) + 3 * len(cut)) % len(reasons)
                changed = reasons[:at] + [(reasons[at][0], way, cut)] + reasons[at + 1:]
                self.same(shows_least_sure(one, other, names, changed), plain_shows(one, other, names, changed))

    def test_spoilt_ones(self):
        for one, other in drawn_pairs(60, 184):
            names, reasons = least_sure(one, other)
            sets = all_name_sets(other.names)
            for thing in sets + [None, list(names or ())] + (spoilt(names) if names else []):
                told = frozen(thing)
                self.same([shows_least_sure(one, other, thing, reasons), frozen(thing)],
                          [plain_shows(one, other, thing, reasons), told])
            lists = [reasons[1:], reasons[:-1], reasons + reasons[:1], reasons[::-1], tuple(reasons), [list(row) for row in reasons]]
            for at, row in enumerate(reasons[:3]):
                lists += [reasons[:at] + [other_row] + reasons[at + 1:] for other_row in spoilt(row)]
            for thing in lists:
                told = frozen(thing)
                self.same([shows_least_sure(one, other, names, thing), frozen(thing)],
                          [plain_shows(one, other, names, thing), told])

    def test_any_value(self):
        for one, other in ((A, B), (LOW, HIGH), (HIGH, LOW), (Web.always(), Web.never())):
            names, reasons = least_sure(one, other)
            for odd in odd_values():
                for pair in ((odd, reasons), (names, odd), (odd, odd), (names, [odd]), (names, [odd] * 4)):
                    self.same([shows_least_sure(one, other, *pair), pair], [plain_shows(one, other, *pair), pair])


if __name__ == "__main__":
    unittest.main()
