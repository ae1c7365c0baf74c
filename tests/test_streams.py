"""Points [15] and [23]: streams, and how they are taken apart."""

import random
import unittest

from plain import along, drawn_streams, plain_is_stream
from samples import FIGURES_60, Case, frozen, odd_values, plain_walks, sample_webs, spoilt
from sixasone.errors import BadStream, NoValue
from sixasone.ratios import Ratio
from sixasone.streams import amount, apart, is_stream, work
from sixasone.values import Values
from sixasone.webs import Web

WORSE = (Web.link("a") | "b") & "m" & (Web.link("c") | "d")
HALF = Ratio(1, 2)
STREAM = (HALF, HALF, -HALF, -HALF, Ratio(1))
ONES = Values.two((), 1, 1)


class StreamTest(Case):
    def test_told_example(self):
        self.same([is_stream(WORSE, STREAM), str(amount(WORSE, STREAM))], [True, "1"])

    def test_open_and_shut(self):
        for web in (Web.always(), Web.never()):
            self.same([is_stream(web, ()), amount(web, ()), apart(web, ()), work(web, Values(), ())],
                      [True, Ratio(0), [], Ratio(0)])
            for odd in odd_values():
                self.same(is_stream(web, odd), odd == () and isinstance(odd, tuple))

    def test_right_ones_and_spoilt_ones(self):
        chance = random.Random(2)
        for web in sample_webs(40, 5):
            for streams in drawn_streams(chance, web, 2):
                self.same(is_stream(web, thing=streams), True)
                for other in spoilt(streams):
                    self.same(is_stream(web, other), plain_is_stream(web, other))
                total = Ratio(0)
                for (_, u, v), part in zip(web.links, streams):
                    total += ((u == 0) - (v == 0)) * part
                self.same(amount(web=web, streams=streams), total)

    def test_balance(self):
        net = Web.net([("a", 0, 2), ("b", 1, 2), ("c", 2, 2), ("d", 4, 5)])
        zero, one = Ratio(0), Ratio(1)
        self.same([is_stream(net, (one, -one, zero, zero)), is_stream(net, (one, -one, Ratio(-9), zero))], [True, True])
        self.same([is_stream(net, (one, one, zero, zero)), is_stream(net, (one, -one, zero, one)),
                   is_stream(net, (one, zero, zero, zero)), is_stream(net, (1, -1, 0, 0))], [False] * 4)
        loop = Web.net([("a", 0, 0), ("b", 0, 1), ("c", 1, 1)])
        self.same([amount(loop, (Ratio(5), Ratio(2), Ratio(7))), apart(loop, (Ratio(5), Ratio(2), Ratio(7)))],
                  [Ratio(2), [((1,), Ratio(2))]])

    def test_wrong_values(self):
        for ask in (amount, apart):
            for odd in odd_values() + [list(STREAM), STREAM[:4], STREAM + (HALF,), (HALF, HALF, HALF, HALF, Ratio(1))]:
                self.fails(BadStream, [], ask, WORSE, odd)
                self.fails(BadStream, [], work, WORSE, ONES, odd)


class ApartTest(Case):
    def check(self, web, streams):
        told = frozen(streams)
        pairs = apart(web, streams)
        self.same(frozen(streams), told)
        self.same([type(pairs), [type(pair) for pair in pairs]], [list, [tuple] * len(pairs)])
        total = amount(web, streams)
        walks = plain_walks(web)
        self.same(len({walk for walk, _ in pairs}), len(pairs))
        borne = [Ratio(0)] * len(web)
        for walk, part in pairs:
            self.assertIn(walk, walks)
            self.same([part > 0, part < 0], [total > 0, total < 0])
            for place, way in along(web, walk):
                self.assertTrue(way * part * streams[place] > 0)
                borne[place] += abs(part)
        self.same(Ratio.total([part for _, part in pairs]), total)
        for place, part in enumerate(borne):
            self.assertTrue(part <= abs(streams[place]))
        self.same(apart(web=web, streams=streams), pairs)

    def test_told_example(self):
        pairs = apart(WORSE, STREAM)
        self.same([str(Ratio.total([part for walk, part in pairs])), {len(walk) for walk, part in pairs}], ["1", {3}])
        self.check(WORSE, STREAM)

    def test_drawn_streams(self):
        chance = random.Random(4)
        for web in sample_webs(60, 6):
            for streams in drawn_streams(chance, web):
                self.check(web, streams)
                self.check(web, tuple(-part for part in streams))

    def test_below_0(self):
        self.same(apart(Web.link("a"), (Ratio(-3),)), [((0,), Ratio(-3))])
        self.same(apart(Web.bunch("a", "b"), (Ratio(-3), Ratio(1))), [((0,), Ratio(-2))])

    def test_rings(self):
        both = Web.bunch("a", "b")
        self.same(apart(both, (Ratio(2), Ratio(-2))), [])
        self.same(apart(both, (Ratio(5), Ratio(-3))), [((0,), Ratio(2))])
        round_about = Web.net([("a", 0, 1), ("b", 0, 2), ("c", 2, 3), ("d", 0, 3), ("e", 4, 5), ("f", 4, 5)])
        self.check(round_about, tuple(Ratio(n) for n in (3, 1, 1, -1, 4, -4)))

    def test_the_list_belongs_to_the_caller(self):
        apart(WORSE, STREAM).clear()
        self.assertTrue(apart(WORSE, STREAM))


class WorkTest(Case):
    def test_told_example(self):
        self.same(str(work(WORSE, Values({"a": 1, "b": 1, "c": 1, "d": 1, "m": 1}), STREAM)), "2")

    def test_sums(self):
        values = Values({"a": 2, "b": HALF, "m": 3, "c": FIGURES_60, "d": 1})
        wanted = Ratio(1, 8) + Ratio(1, 2) + Ratio(1, 3) + Ratio(1, 4 * FIGURES_60) + Ratio(1, 4)
        self.same(work(web=WORSE, values=values, streams=STREAM), wanted)
        self.same(work(Web.row("x", "x"), Values({"x": 2}), (Ratio(3), Ratio(-3))), Ratio(9))

    def test_through_the_value_0(self):
        values = Values.two(["a"], 0, 1)
        self.same(work(WORSE, values, STREAM), Ratio.endless())
        none = (Ratio(0), Ratio(1), Ratio(-1), Ratio(0), Ratio(1))
        self.same(work(WORSE, values, none), Ratio(3))
        self.same(work(WORSE, Values.two((), 0, 0), (Ratio(0),) * 5), Ratio(0))
        self.same(work(WORSE, Values.two((), 0, 0), STREAM), Ratio.endless())

    def test_no_value_first(self):
        for odd in odd_values() + [STREAM]:
            self.fails(NoValue, ["b"], work, WORSE, Values({"a": 1, "d": 1}), odd)


if __name__ == "__main__":
    unittest.main()
