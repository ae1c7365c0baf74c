"""Points [30] and [31]: mixes of counts."""

import itertools
import random
import time
import unittest
from fractions import Fraction

from drawn import never_worse, plain_pair
from plain import ALPHABET
from samples import Case, counts, frozen, odd_values, plain_cuts, plain_walks, random_net, random_web, spoilt
from sixasone.errors import TooMany
from sixasone.flows import Flow
from sixasone.measures import Length
from sixasone.mixes import never_less, never_longer, shows_less, shows_longer
from sixasone.ratios import Ratio
from sixasone.simplex import packing, shows_packing
from sixasone.values import Values
from sixasone.webs import Web

HALF = Ratio(1, 2)
XY, PAIRS = Web.row("x", "y"), Web.bunch(Web.row("x", "x"), Web.row("y", "y"))


def plain_ways(web):
    return counts(web, plain_walks(web))


def plain_cut_counts(web):
    return counts(web, plain_cuts(web))


class Side:
    """One of the two questions, with what is asked of the webs by all walks and all sides."""

    def __init__(self, ask, shows, measure, one, other):
        self.ask, self.shows, self.measure, self.one, self.other = ask, shows, measure, one, other
        self.names = sorted(set(one.names + other.names))
        self.bounds = plain_ways(one) if ask == never_longer else plain_cut_counts(other)
        self.mixed = plain_ways(other) if ask == never_longer else plain_cut_counts(one)

    def has_mix(self, bound):
        """Whether some mix is at most a bound, as a packing and its prices show."""
        if () in self.mixed:
            return True
        columns = [tuple(count.count(name) for name in self.names) for count in self.mixed]
        room = tuple(bound.count(name) for name in self.names)
        found = packing(columns, room)
        assert shows_packing(columns, room, found)
        return sum(Fraction(weight.top, weight.bottom) for weight in found[0]) >= 1

    def is_mix(self, bound, weights):
        if type(weights) is not tuple or len(weights) != len(self.mixed):
            return False
        if any(type(weight) is not Ratio or not weight.bottom or weight.top < 0 for weight in weights):
            return False
        parts = [Fraction(weight.top, weight.bottom) for weight in weights]
        return sum(parts) == 1 and all(
            sum(part * count.count(name) for part, count in zip(parts, self.mixed)) <= bound.count(name)
            for name in self.names)

    def bars(self, bound, numbers):
        if type(numbers) is not dict or sorted(map(str, numbers)) != self.names or set(numbers) != set(self.names):
            return False
        if any(type(number) is not int or number < 0 for number in numbers.values()):
            return False
        cost = sum(numbers[name] for name in bound)
        return all(cost < sum(numbers[name] for name in count) for count in self.mixed)

    def is_shown(self, thing):
        """Whether any value shows what it says, word by word."""
        if type(thing) is not tuple or not thing or type(thing[0]) is not str:
            return False
        if thing[0] == "bar":
            return len(thing) == 3 and type(thing[1]) is tuple and thing[1] in self.bounds and self.bars(*thing[1:])
        if thing[0] != "mix" or len(thing) != 2 or type(thing[1]) is not tuple or len(thing[1]) != len(self.bounds):
            return False
        return all(type(row) is tuple and len(row) == 2 and type(row[0]) is tuple and row[0] == bound
                   and self.is_mix(bound, row[1]) for row, bound in zip(thing[1], self.bounds))


def sides(one, other):
    return [Side(never_longer, shows_longer, Length(), one, other), Side(never_less, shows_less, Flow(), one, other)]


def drawn_pairs(count, most, seed):
    """Pairs of webs, mostly with names at several places."""
    chance = random.Random(seed)
    fixed = [Web.always(), Web.never(), Web.link("x"), Web.row("x", "x"), Web.bunch("x", "x"), Web.net([("x", 2, 3)]), XY, PAIRS]
    pairs = list(itertools.product(fixed, repeat=2))
    for at in range(count):
        names = "xyzu"[:1 + at % 4]
        draw = random_web if at % 3 else lambda chance, many, names: random_net(chance, many, 4, names)
        pairs.append(tuple(draw(chance, chance.randrange(1, most + 1), names) for _ in range(2)))
    return pairs


class MixTest(Case):
    def check(self, side):
        one, other = side.one, side.other
        told = frozen([one, other])
        found = side.ask(one=one, other=other)
        self.same(side.ask(one, other), found)
        self.same(frozen([one, other]), told)
        self.assertTrue(side.is_shown(found), (side.ask, one.links, other.links, found))
        self.same(side.shows(one, other, found), True)
        lacking = [bound for bound in side.bounds if not side.has_mix(bound)]
        if lacking:
            self.same(found[:2], ("bar", lacking[0]))
            self.same(list(found[2]), side.names)
        else:
            self.same(found[0], "mix")
        return found[0]

    def test_told_examples(self):
        self.same(never_longer(XY, PAIRS), ("mix", ((("x", "y"), (HALF, HALF)),)))
        self.same(never_longer(PAIRS, XY)[:2], ("bar", ("x", "x")))
        self.same(shows_longer(PAIRS, XY, ("bar", ("x", "x"), {"x": 0, "y": 1})), True)
        self.same([never_less(Web.link("x"), Web.row("x", "x"))[0], never_longer(Web.link("x"), Web.row("x", "x"))[0]],
                  ["mix", "bar"])
        self.same(never_less(Web.bunch("x", "x"), Web.link("x"))[:2], ("bar", ("x",)))
        self.same(never_longer(Web.never(), XY), ("mix", ()))

    def test_drawn_webs(self):
        words = {"mix": 0, "bar": 0}
        for one, other in drawn_pairs(220, 6, 151):
            for side in sides(one, other):
                words[self.check(side)] += 1
        self.assertTrue(min(words.values()) > 60, words)

    def test_eight_places(self):
        webs = [Web.row(*[Web.bunch(*pair) for pair in ("ab", "cd", "ef", "gh")]),
                Web.bunch(*[Web.row(*pair) for pair in ("ab", "cd", "ef", "gh")]),
                Web.row(*[Web.bunch(*pair) for pair in ("xy", "xz", "yz", "xx")]), Web.row(*"xxxxyyyz"), Web.bunch(*"xxxxyyyz")]
        chance = random.Random(152)
        webs += [random_net(chance, 8, 5, names) for names in ("abcdefgh", "xyz", "wxyz")]
        begun = time.process_time()
        for one, other in itertools.product(webs, repeat=2):
            for ask, shows in ((never_longer, shows_longer), (never_less, shows_less)):
                self.same(shows(one, other, ask(one, other)), True)
        self.assertTrue(time.process_time() - begun < 60)

    def test_what_the_measures_tell(self):
        chance = random.Random(153)
        for one, other in drawn_pairs(60, 5, 154):
            if "open" in (one.kind, other.kind):
                continue
            for side in sides(one, other):
                found = side.ask(one, other)
                for _ in range(8):
                    values = Values({name: chance.randrange(5) for name in side.names})
                    if found[0] == "mix":
                        self.same(side.measure.better(side.measure(one, values), side.measure(other, values)), False)
                if found[0] == "bar" and side.mixed:
                    values = Values(found[2])
                    self.same(side.measure.better(side.measure(one, values), side.measure(other, values)), True)

    def test_plain_webs(self):
        chance = random.Random(155)
        told = []
        for _ in range(120):
            one, other = plain_pair(chance)
            told.append(never_worse(one, other))
            wanted = "mix" if told[-1] else "bar"
            self.same([never_longer(one, other)[0], never_less(one, other)[0]], [wanted, wanted])
        self.assertTrue(10 < sum(told) < 110, sum(told))

    def test_several_places(self):
        # Each of the two gives the order, and neither gives the other one.
        both = set()
        for one, other in drawn_pairs(300, 6, 156):
            found = never_longer(one, other)[0], never_less(one, other)[0]
            if "mix" in found:
                self.same(never_worse(one, other), True)
            both.add((found, never_worse(one, other)))
        self.assertEqual(both, {(("mix", "mix"), True), (("mix", "bar"), True), (("bar", "mix"), True),
                                (("bar", "bar"), True), (("bar", "bar"), False)})

    def test_cuts_are_the_ways_of_the_dual(self):
        for one, other in drawn_pairs(120, 6, 157):
            if one.is_tied and other.is_tied:
                self.same(never_less(one, other), never_longer(~other, ~one))

    def test_open_and_shut(self):
        always, never, lone = Web.always(), Web.never(), Web.net([("a", 2, 3)])
        for one in (never, lone):
            for other in (always, never, lone, XY):
                self.same(never_longer(one, other), ("mix", ()))
                if other.kind != "open":
                    rows = [(count, (Ratio(1),)) for count in plain_cut_counts(other)]
                    self.same(never_less(one, other), ("mix", tuple(rows)))
        for one in (always, never, lone, XY):
            self.same(never_less(one, always), ("mix", ()))
            rows = [(count, (Ratio(1),)) for count in plain_ways(one)]
            self.same(never_longer(one, always), ("mix", tuple(rows)))
        self.same([never_longer(always, never), never_less(always, never)], [("bar", (), {}), ("bar", (), {})])
        self.same([never_longer(always, XY)[:2], never_longer(XY, lone)[:2], never_less(XY, lone)[:2], never_less(always, XY)[:2]],
                  [("bar", ()), ("bar", ("x", "y")), ("bar", ()), ("bar", ("x",))])
        # Names of both webs, idle ones too, and no others.
        self.same([sorted(never_longer(XY, lone)[2]), sorted(never_less(XY, lone)[2]), sorted(never_less(always, lone)[2])],
                  [["a", "x", "y"], ["a", "x", "y"], ["a"]])

    def test_too_many(self):
        eight, nine = Web.row(*"xxxxyyyy"), Web.row(*"xxxxyyyyx")
        for ask in (never_longer, never_less):
            for one, other in ((nine, XY), (XY, nine), (nine, nine), (Web.never(), nine), (nine, Web.always())):
                self.fails(TooMany, [8], ask, one, other)
            ask(eight, eight)


class ShowsTest(Case):
    def test_right_ones_of_another_hand(self):
        three = Web.bunch(Web.row("x", "x"), Web.row("x", "y"), Web.row("y", "y"))
        for weights, wanted in (((0, 1, 0), True), ((1, 0, 1), True), ((1, 2, 1), True), ((1, 0, 0), False), ((2, 1, 1), False),
                                ((0, 0, 1), False), ((1, 8, 1), True)):
            rows = ((("x", "y"), tuple(Ratio(weight, sum(weights)) for weight in weights)),)
            self.same(shows_longer(XY, three, ("mix", rows)), wanted)
        for lengths, wanted in (({"x": 0, "y": 1}, True), ({"x": 3, "y": 4}, True), ({"x": 1, "y": 1}, False), ({"x": 1}, False),
                                ({"x": 1, "y": 0}, False), ({"x": 0, "y": 1, "z": 1}, False), ({"x": 0, "y": True}, False),
                                ({"x": -1, "y": 1}, False), ({"x": 0, "y": Ratio(1)}, False), ({}, False), ({"x": 0, 1: 1}, False),
                                ({"x": 0, None: 1}, False), ([("x", 0), ("y", 1)], False), (Values({"x": 0, "y": 1}), False)):
            self.same([shows_longer(PAIRS, XY, ("bar", ("x", "x"), lengths)), lengths], [wanted, lengths])
        # Any of the counts that are barred.
        self.same([shows_longer(PAIRS, XY, ("bar", ("y", "y"), {"x": 1, "y": 0})),
                   shows_longer(PAIRS, XY, ("bar", ("x", "y"), {"x": 1, "y": 0}))], [True, False])

    def test_all_bars_of_small_numbers(self):
        for one, other in drawn_pairs(40, 4, 158):
            for side in sides(one, other):
                for bound in side.bounds + [("x",), ("x", "zz"), ()]:
                    for numbers in itertools.product(range(3), repeat=len(side.names)):
                        thing = ("bar", bound, dict(zip(side.names, numbers)))
                        self.same(side.shows(one, other, thing), side.is_shown(thing))

    def test_all_mixes_of_quarters(self):
        for one, other in drawn_pairs(60, 4, 159):
            for side in sides(one, other):
                if len(side.bounds) == 1 and len(side.mixed) < 4:
                    for parts in itertools.product(range(5), repeat=len(side.mixed)):
                        thing = ("mix", ((side.bounds[0], tuple(Ratio(part, 4) for part in parts)),))
                        self.same(side.shows(one=one, other=other, thing=thing), side.is_shown(thing))

    def test_spoilt_ones(self):
        for one, other in drawn_pairs(80, 5, 160):
            for side in sides(one, other):
                found = side.ask(one, other)
                things = spoilt(found) + [("mix", found), ("bar",) + found[1:], ("mix",) + found[1:], ("mix", list(found[1]))]
                if found[0] == "bar":
                    names = side.names
                    things += [found[:2] + (numbers,) for numbers in (
                        {}, {**found[2], "zz": 1}, {name: str(number) for name, number in found[2].items()},
                        {name: -number for name, number in found[2].items()}, {name: number > 0 for name, number in found[2].items()},
                        {name: Ratio(number) for name, number in found[2].items()}, {name: 2 * found[2][name] for name in names},
                        {name: found[2][name] for name in names[1:]}, list(found[2].items()), None)]
                    things += [("bar", list(found[1]), found[2]), ("bar", found[1] + ("zz",), found[2])]
                for thing in things:
                    told = frozen(thing)
                    self.same([side.shows(one, other, thing), thing], [side.is_shown(thing), thing])
                    self.same(frozen(thing), told)

    def test_any_value(self):
        webs = (Web.always(), Web.never(), Web.link("x"), XY, PAIRS)
        for one, other in itertools.product(webs, repeat=2):
            for odd in odd_values():
                for thing in (odd, ("mix", odd), ("bar", odd, {}), ("bar", (), odd), ("bar", odd, odd), (odd, ()), (odd, (), {}),
                              ("mix", (odd,)), ("mix", ((odd, odd),)), ("mix", ((("x",), odd),))):
                    for side in sides(one, other):
                        self.same([side.shows(one, other, thing), thing], [side.is_shown(thing), thing])

    def test_more_than_eight_places(self):
        names = sorted(ALPHABET)[:14]
        row, bunch = Web.row(*names), Web.bunch(*names)
        rows = ((tuple(names), (Ratio(1),) + (Ratio(0),) * 13),)
        self.same([shows_longer(row, bunch, ("mix", rows)), shows_longer(bunch, row, ("mix", rows)),
                   shows_longer(bunch, row, ("bar", ("a",), {name: int(name != "a") for name in names})),
                   shows_less(bunch, row, ("bar", ("a",), {name: 1 for name in names}))], [True, False, True, True])


if __name__ == "__main__":
    unittest.main()
