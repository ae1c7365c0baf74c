"""Points [14], [15] and [16] for the flow."""

import itertools
import random
import unittest

from plain import MeasureCase, drawn_streams, plain_shows
from samples import FIGURES_60, drawn_values, odd_values, sample_webs
from sixasone.flows import Flow
from sixasone.measures import ByCut, Measure
from sixasone.ratios import Ratio
from sixasone.streams import amount
from sixasone.values import Values
from sixasone.webs import Web

BRIDGE = Web.net([("a", 0, 2), ("b", 0, 3), ("m", 2, 3), ("c", 2, 1), ("d", 3, 1)])
ROOMS = Values({"a": 5, "b": 2, "c": 2, "d": 4, "m": 3})
STREAMS = tuple(Ratio(n) for n in (4, 2, -2, -4, 2))
ENDLESS = Ratio.endless()


class FlowTest(MeasureCase):
    def test_told_examples(self):
        self.same([str(Flow()(BRIDGE, ROOMS)), Flow().shut_in(BRIDGE, ROOMS)], ["6", (2, 3)])
        self.same(Flow().shows(BRIDGE, ROOMS, Ratio(6), ("stream", STREAMS, (2, 3))), True)

    def test_class(self):
        self.assertEqual(Flow.__bases__, (ByCut,))
        self.assertTrue({"__init__", "__call__", "paper_of", "shows", "better", "__eq__", "shut_in"} <= set(vars(Flow)))
        self.same([Flow().word, Flow().good, Flow().bad, hasattr(Flow(), "walk_in")], ["flow", Ratio(1), Ratio(0), False])
        self.same([Flow() == Flow(), Flow() != Flow(), isinstance(Flow(), Measure)], [True, False, True])
        for odd in odd_values():
            self.same([Flow() == odd, odd == Flow()], [False, False])

    def test_better(self):
        for x, y in itertools.product([Ratio(-1), Ratio(0), Ratio(1, 2), Ratio(1), ENDLESS], repeat=2):
            self.same([Flow().better(x, y), Flow().better(y=x, x=y)], [x > y, y > x])

    def test_open_and_shut(self):
        for values in (Values(), ROOMS):
            self.same([Flow()(Web.always(), values), Flow().paper_of(Web.always(), values)], [ENDLESS, ("open",)])
            self.same([Flow()(Web.never(), values), Flow().paper_of(Web.never(), values)],
                      [Ratio(0), ("stream", (), ())])
            self.same([Flow().shut_in(Web.always(), values), Flow().shut_in(Web.never(), values)], [None, ()])
        for paper in (("stream", (), ()), ("cut", ()), ["open"], ("open", ())):
            self.same(Flow().shows(Web.always(), ROOMS, ENDLESS, paper), False)
        self.same(Flow().shows(Web.never(), ROOMS, Ratio(0), ("open",)), False)

    def test_against_all_sides(self):
        chance = random.Random(21)
        for web in sample_webs(80, 6):
            values = drawn_values(chance, web)
            self.check_number(Flow(), web, values)
            paper = self.check_paper(Flow(), web, values)
            self.same(Flow().shut_in(web=web, values=values), None if web.kind == "open" else paper[2])
            self.check_spoilt(Flow(), web, values, paper)

    def test_missing_values(self):
        self.check_missing(Flow())

    def test_sixty_figures(self):
        values = Values({"a": FIGURES_60, "b": Ratio(1, FIGURES_60), "c": FIGURES_60 - 1, "d": Ratio(2, 3), "m": 0})
        self.same(Flow()(BRIDGE, values), Ratio(FIGURES_60 - 1) + Ratio(1, FIGURES_60))
        values["m"] = Ratio(1, 2)
        self.same(Flow()(BRIDGE, values), Ratio(FIGURES_60 - 1) + Ratio(1, FIGURES_60) + Ratio(1, 2))
        self.check_paper(Flow(), BRIDGE, values)
        # As many rounds as there is room would never come to an end.
        wide = Values.two(["m"], 1, int("1" + "0" * 30))
        self.same(Flow()(BRIDGE, wide), Ratio(int("2" + "0" * 30)))

    def test_nothing_goes(self):
        zeros = Values.two((), 0, 0)
        self.same(Flow()(BRIDGE, zeros), Ratio(0))
        self.same([Flow().shows(BRIDGE, zeros, Ratio(0), ("stream", (Ratio(0),) * 5, places))
                   for places in ((0, 1), (2, 3), (0, 1, 2, 3, 4), (0, 3, 4), (0,), ())], [True] * 4 + [False] * 2)
        idle = Web.net([("a", 0, 2), ("b", 3, 3), ("c", 1, 4)])
        self.same([Flow()(idle, ROOMS), Flow().shut_in(idle, ROOMS)], [Ratio(0), ()])

    def test_several_places(self):
        values = Values({"x": 2, "y": 5})
        self.same([str(Flow()(web, values)) for web in (
            Web.row("x", "x"), Web.bunch("x", "x"), Web.bunch("x", "x") & "y", Web.row(Web.bunch("x", "x", "x"), "y"))],
            ["2", "4", "4", "5"])

    def test_rings_are_let(self):
        net = Web.net([("a", 0, 1), ("b", 0, 2), ("c", 0, 2), ("d", 3, 4), ("e", 3, 4), ("f", 3, 4), ("g", 2, 2)])
        values = Values.two(["a"], 1, 3)
        for b, d, e, f, g in itertools.product((-4, -3, 0, 2), (0, 1), (-1, 2), (-1, 0, -3), (-3, 0, 3, 4)):
            streams = tuple(Ratio(n) for n in (1, b, -b, d, e, f, g))
            wanted = b >= -3 and d + e + f == 0 and g <= 3
            self.same(Flow().shows(net, values, Ratio(1), ("stream", streams, (0,))), wanted)

    def test_more_than_the_room_is_barred(self):
        both = Web.bunch("a", "b")
        values = Values({"a": 2, "b": 1})
        for a, b in itertools.product(range(-4, 5), repeat=2):
            paper = ("stream", (Ratio(a), Ratio(b)), (0, 1))
            self.same(Flow().shows(both, values, Ratio(3), paper), (a, b) == (2, 1))

    def test_all_streams_of_small_webs(self):
        webs = [Web.link("a"), Web.row("a", "b"), Web.bunch("a", "a"), Web.net([("a", 0, 1), ("b", 0, 2), ("a", 0, 2)]),
                Web.net([("a", 0, 1), ("b", 2, 3), ("b", 2, 3)]), Web.net([("a", 0, 2), ("b", 2, 2), ("b", 1, 2)])]
        for web in webs:
            values = Values({"a": 1, "b": 2})
            for parts in itertools.product([Ratio(n) for n in (-2, -1, 0, 1, 2)], repeat=len(web)):
                for places in [some for many in range(len(web) + 1)
                               for some in itertools.combinations(range(len(web)), many)]:
                    for number in (Ratio(0), Ratio(1), Ratio(2), Ratio(-1)):
                        paper = ("stream", parts, places)
                        self.same(Flow().shows(web, values, number, paper),
                                  plain_shows("flow", web, values, number, paper))

    def test_any_streams_with_any_places(self):
        chance = random.Random(22)
        for web in sample_webs(30, 6):
            if web.kind == "open":
                continue
            for streams in drawn_streams(chance, web, 4):
                values = drawn_values(chance, web)
                places = tuple(sorted(chance.sample(range(len(web)), chance.randrange(len(web) + 1))))
                for number in (Flow()(web, values), amount(web, streams)):
                    paper = ("stream", streams, places)
                    self.same(Flow().shows(web, values, number, paper), plain_shows("flow", web, values, number, paper))

    def test_fourteen_places(self):
        tied = Web.row(*[Web.bunch(*part) for part in ("abc", "def", "ghi", "jkl", "mn")])
        values = Values({name: Ratio(at % 5 + 1, FIGURES_60 - at) for at, name in enumerate("abcdefghijklmn")})
        self.check_paper(Flow(), tied, values)
        chance = random.Random(23)
        for joints in (3, 5, 7, 9):
            net = Web.net([(name, chance.randrange(joints), chance.randrange(joints)) for name in "abcdefghijklmn"])
            values = Values({name: Ratio(chance.randrange(10 ** 59), 10 ** 58 + at) for at, name in enumerate(net.names)})
            self.check_number(Flow(), net, values)
            self.check_paper(Flow(), net, values)


if __name__ == "__main__":
    unittest.main()
