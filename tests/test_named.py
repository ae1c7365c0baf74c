"""Points [13], [14] and [16] for all six measures together."""

import random
import unittest
from fractions import Fraction

from drawn import web_pairs
from plain import MeasureCase, drawn_chances, plain_number, plain_shows
from samples import FIGURES_60, Case, drawn_values, frozen, odd_values, random_web, sample_webs
from sixasone.chances import Chance
from sixasone.eases import Ease
from sixasone.errors import BadName, BadValue, NoValue
from sixasone.flows import Flow
from sixasone.measures import Joined, Length, Width
from sixasone.named import WORDS, measure
from sixasone.ratios import Ratio
from sixasone.values import Values
from sixasone.webs import Web

ENDLESS = Ratio.endless()
SIX = [measure(word) for word in WORDS]
BRIDGE = Web.net([("a", 0, 2), ("b", 0, 3), ("m", 2, 3), ("c", 2, 1), ("d", 3, 1)])


def drawn(chance, ask, web):
    return drawn_chances(chance, web) if ask.word == "chance" else drawn_values(chance, web)


def dual_values(values, change):
    """Values of all told names and of the rest, each changed."""
    made = Values({name: change(values[name]) for name in values.names})
    made.rest = None if values.rest is None else change(values.rest)
    return made


class NamedTest(Case):
    def test_words(self):
        self.same(WORDS, ("joined", "length", "width", "flow", "chance", "ease"))
        self.same([type(measure(word)) for word in WORDS], [Joined, Length, Width, Flow, Chance, Ease])
        self.same([measure(word=word).word for word in WORDS], list(WORDS))
        self.assertTrue(all(measure(word) == measure(word) for word in WORDS))
        for one in SIX:
            self.same([one == other for other in SIX], [one.word == other.word for other in SIX])
            self.same([one != other for other in SIX], [one.word != other.word for other in SIX])

    def test_any_other_value(self):
        for odd in odd_values() + ["Flow", "flow ", "flows", ("flow",), ["flow"], Flow(), "paper"]:
            self.fails(BadName, [odd], measure, odd)

    def test_good_and_bad(self):
        for ask in SIX:
            self.same([ask.good, ask.bad], [Ratio(0), Ratio(1)] if ask.word == "length" else [Ratio(1), Ratio(0)])
            self.same([ask.better(ask.good, ask.bad), ask.better(ask.bad, ask.good), ask.better(ask.bad, ask.bad)],
                      [True, False, False])


class SixTest(MeasureCase):
    def test_numbers_and_papers(self):
        chance = random.Random(71)
        for web in sample_webs(60, 5):
            for ask in SIX:
                values = drawn(chance, ask, web)
                self.check_number(ask, web, values)
                paper = self.check_paper(ask, web, values)
                for other in SIX:
                    if other.word != "chance":
                        number = ask(web, values)
                        self.same(other.shows(web, values, number, paper),
                                  plain_shows(other.word, web, values, number, paper))

    def test_spoilt_papers(self):
        chance = random.Random(72)
        for web in sample_webs(20, 4):
            for ask in SIX:
                values = drawn(chance, ask, web)
                self.check_spoilt(ask, web, values, ask.paper_of(web, values))

    def test_missing_values(self):
        for ask in SIX:
            self.check_missing(ask)

    def test_chance_alone_bars_values_above_1(self):
        net = Web.net([("b", 0, 1), ("i", 5, 5)])
        for numbers, rest, error, name in (
                ({"b": 2, "i": 2}, None, BadValue, "b"), ({"b": 1, "i": 2}, None, BadValue, "i"),
                ({"i": 2}, None, NoValue, "b"), ({"b": 2}, None, NoValue, "i"), ({"b": 0}, 3, BadValue, "i"),
                ({"i": 1}, 3, BadValue, "b"), ({"a": 2}, None, NoValue, "b")):
            values = Values(numbers)
            values.rest = rest
            for ask in SIX:
                if ask.word == "chance" or error is NoValue:
                    self.fails(error, [name], ask, net, values)
                    self.fails(error, [name], ask.shows, net, values, None, None)
                else:
                    self.same(ask(net, values), plain_number(ask.word, net, values))

    def test_open_and_shut(self):
        for values in (Values(), Values({"a": FIGURES_60}), Values.two((), 0, 2)):
            self.same([ask(Web.always(), values) for ask in SIX], [Ratio(1), Ratio(0), ENDLESS, ENDLESS, Ratio(1), ENDLESS])
            self.same([ask(Web.never(), values) for ask in SIX], [Ratio(0), ENDLESS] + [Ratio(0)] * 4)
            for ask in SIX:
                wanted = ("cases", ("way", ())) if ask.word == "chance" else ("open",)
                self.same(ask.paper_of(Web.always(), values), wanted)
                self.same(ask.shows(Web.always(), values, ask(Web.always(), values), ("open",)), ask.word != "chance")
                self.same(ask.shows(Web.never(), values, ask(Web.never(), values), ("open",)), False)

    def test_names_that_the_web_lacks(self):
        for ask in SIX:
            values = Values({"a": 1, "b": 0, "c": 1, "d": 1, "m": 1, "zz": FIGURES_60})
            self.same(ask(BRIDGE, values), ask(BRIDGE, Values({"a": 1, "b": 0, "c": 1, "d": 1, "m": 1})))


class LawsTest(Case):
    def test_a_web_in_the_place_of_a_link(self):
        chance = random.Random(73)
        many = 0
        for at in range(150):
            web = random_web(chance, chance.randrange(1, 5), "abc")
            inner = random_web(chance, chance.randrange(1, 4), "pq")
            if at % 10 == 0:
                inner = (Web.always(), Web.never())[at // 10 % 2]
            if "a" not in web:
                continue
            for ask in SIX:
                values = Values({name: Ratio(chance.randrange(3), 2) for name in "bcpq"})
                number = ask(inner, values)
                if number.is_endless:
                    continue
                many += 1
                single = values.copy()
                single["a"] = number
                self.same(ask(web.put("a", inner), values), ask(web, single))
        self.assertTrue(many > 300, many)

    def test_duals(self):
        chance = random.Random(74)
        for _ in range(80):
            web = random_web(chance, chance.randrange(1, 6), "abcd")
            if not web.is_tied:
                continue
            values = Values({name: Ratio(chance.randrange(3), 2) for name in web.names})
            self.same([measure("flow")(web, values), measure("length")(web, values)],
                      [measure("length")(~web, values), measure("flow")(~web, values)])
            values = Values({name: Ratio(chance.randrange(1, 7), 6) for name in web.names})
            self.same(measure("chance")(~web, values.turned()), 1 - measure("chance")(web, values))
            self.same(measure("ease")(~web, values.over()), Ratio(1).over(measure("ease")(web, values)))
            self.same(measure("width")(~web, values.over()), Ratio(1).over(measure("width")(web, values)))

    def test_greater_values_never_tell_less(self):
        chance = random.Random(75)
        for web in sample_webs(60, 6):
            for ask in SIX:
                low = {name: Fraction(chance.randrange(3), 4) for name in web.names}
                high = {name: low[name] + Fraction(chance.randrange(2), 4) for name in low}
                told = [ask(web, Values({name: Ratio(told[name].numerator, told[name].denominator) for name in told}))
                        for told in (low, high)]
                self.assertTrue(told[0] <= told[1])

    def test_the_ends_exchanged(self):
        chance = random.Random(76)
        for web in sample_webs(60, 6):
            for ask in SIX:
                values = drawn(chance, ask, web)
                self.same(ask(-web, values), ask(web, values))

    def test_the_net_of_a_web(self):
        chance = random.Random(77)
        for one, _ in web_pairs(40):
            for ask in SIX:
                values = drawn(chance, ask, one)
                before = frozen(values)
                self.same([ask(one.net_of(), values), frozen(values)], [ask(one, values), before])

    def test_rows_and_bunches(self):
        chance = random.Random(78)
        for _ in range(60):
            one, other = random_web(chance, 4, "abc"), random_web(chance, 4, "pqr")
            values = Values({name: Ratio(chance.randrange(1, 4), 4) for name in "abcpqr"})
            for word, row, bunch in (
                    ("length", lambda x, y: x + y, lambda x, y: Ratio.least([x, y])),
                    ("width", lambda x, y: Ratio.least([x, y]), lambda x, y: Ratio.greatest([x, y])),
                    ("flow", lambda x, y: Ratio.least([x, y]), lambda x, y: x + y),
                    ("chance", lambda x, y: x * y, lambda x, y: x + y - x * y),
                    ("ease", lambda x, y: (x * y).over(x + y) if x + y else x, lambda x, y: x + y)):
                x, y = measure(word)(one, values), measure(word)(other, values)
                self.same(measure(word)(one & other, values), row(x, y))
                self.same(measure(word)(one | other, values), bunch(x, y))


if __name__ == "__main__":
    unittest.main()
