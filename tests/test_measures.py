"""Points [13], [14] and [16]: shut places, and the measures joined, length and width."""

import itertools
import random
import unittest
from fractions import Fraction

from samples import FIGURES_60, Case, drawn_values, frozen, odd_values, plain_walks, sample_webs, spoilt, worths_of
from sixasone.errors import NoValue
from sixasone.measures import ByCut, ByWay, Joined, Length, Measure, Width
from sixasone.ratios import Ratio
from sixasone.values import Values
from sixasone.webs import Web

MEASURES = [Joined(), Length(), Width()]
BRIDGE = Web.net([("a", 0, 2), ("b", 0, 3), ("m", 2, 3), ("c", 2, 1), ("d", 3, 1)])
ROOMS = Values({"a": 5, "b": 2, "c": 2, "d": 4, "m": 3})
LEVELS = (Ratio(0), Ratio(6), Ratio(4), Ratio(2))
ENDLESS = Ratio.endless()


def plain_number(word, web, values):
    """The number by all walks."""
    worths = worths_of(web, values)
    walks = plain_walks(web)
    if web.kind == "open":
        return {"joined": Ratio(1), "length": Ratio(0), "width": ENDLESS}[word]
    if word == "joined":
        return Ratio(int(any(all(worths[place] > 0 for place in walk) for walk in walks)))
    if not walks:
        return ENDLESS if word == "length" else Ratio(0)
    if word == "length":
        found = min(sum(worths[place] for place in walk) for walk in walks)
    else:
        found = max(min(worths[place] for place in walk) for walk in walks)
    return Ratio(found.numerator, found.denominator)


def shut_tuples(web, walks, places):
    """All tuples of shut places among some places."""
    if web.kind == "open":
        return []
    some = [chosen for many in range(len(places) + 1) for chosen in itertools.combinations(places, many)]
    return [chosen for chosen in some if all(set(chosen) & set(walk) for walk in walks)]


def least_levels(web, worths, start):
    """How far the joints are from a joint, by going on as long as something is less."""
    far = {joint: None for joint in web.joints}
    far[start] = Fraction(0)
    for _ in web.joints:
        for (_, u, v), worth in zip(web.links, worths):
            for near, other in ((u, v), (v, u)):
                if far[near] is not None and (far[other] is None or far[other] > far[near] + worth):
                    far[other] = far[near] + worth
    return far


def level_tuples(web, values, number):
    """Several tuples of levels that show a length."""
    worths = worths_of(web, values)
    most = Fraction(number.top, number.bottom)
    near, back = least_levels(web, worths, 0), least_levels(web, worths, 1)
    first = [Fraction(-5) if near[joint] is None else min(near[joint], most) for joint in web.joints]
    second = [Fraction(99) if back[joint] is None else max(most - back[joint], 0) for joint in web.joints]
    # Both fit at joint 0 only if it is 0 there, as it is where there is a walk.
    return [tuple(Ratio(one.numerator, one.denominator) for one in told) for told in (first, second)]


def right_papers(word, web, values):
    """All right papers but for other levels."""
    if web.kind == "open":
        return [("open",)]
    worths, walks = worths_of(web, values), plain_walks(web)
    number = plain_number(word, web, values)
    if word == "joined":
        zeros = [place for place, worth in enumerate(worths) if worth == 0]
        found = [("way", walk) for walk in walks if all(worths[place] > 0 for place in walk)]
        return found or [("cut", places) for places in shut_tuples(web, walks, zeros)]
    if not walks:
        return [("cut", ())]
    exact = Fraction(number.top, number.bottom)
    if word == "length":
        best = [walk for walk in walks if sum(worths[place] for place in walk) == exact]
        return [("way", walk, levels) for walk in best for levels in level_tuples(web, values, number)]
    best = [walk for walk in walks if min(worths[place] for place in walk) == exact]
    low = [place for place, worth in enumerate(worths) if worth <= exact]
    return [("way", walk, places) for walk in best for places in shut_tuples(web, walks, low)]


class NumberTest(Case):
    def test_told_examples(self):
        self.same([str(Width()(BRIDGE, ROOMS)), Width().walk_in(BRIDGE, ROOMS), str(Length()(BRIDGE, ROOMS))],
                  ["3", (0, 4, 3), "6"])

    def test_open_and_shut(self):
        for values in (Values(), ROOMS):
            self.same([ask(Web.always(), values) for ask in MEASURES], [Ratio(1), Ratio(0), ENDLESS])
            self.same([ask(Web.never(), values) for ask in MEASURES], [Ratio(0), ENDLESS, Ratio(0)])

    def test_against_all_walks(self):
        chance = random.Random(7)
        for web in sample_webs(80, 6):
            for ask in MEASURES:
                values = drawn_values(chance, web)
                told = frozen(values)
                self.same(ask(web, values), plain_number(ask.word, web, values))
                self.same(ask(web=web, values=values), plain_number(ask.word, web, values))
                self.same(frozen(values), told)

    def test_sixty_figures(self):
        values = Values({"a": FIGURES_60, "b": Ratio(1, FIGURES_60), "c": FIGURES_60 - 1, "d": 2, "m": 0})
        self.same([ask(BRIDGE, values) for ask in MEASURES],
                  [Ratio(1), Ratio(1, FIGURES_60) + 2, Ratio(FIGURES_60 - 1)])

    def test_zeros(self):
        zeros = Values.two((), 0, 0)
        self.same([ask(BRIDGE, zeros) for ask in MEASURES], [Ratio(0), Ratio(0), Ratio(0)])
        idle = Web.net([("a", 0, 2), ("b", 3, 3), ("c", 1, 4)])
        self.same([ask(idle, zeros) for ask in MEASURES], [Ratio(0), ENDLESS, Ratio(0)])

    def test_several_places(self):
        values = Values({"x": 2, "y": 5})
        self.same([ask(Web.row("x", "x", "y"), values) for ask in MEASURES], [Ratio(1), Ratio(9), Ratio(2)])

    def test_no_value(self):
        for ask in MEASURES:
            for call in (ask, ask.paper_of):
                self.fails(NoValue, ["b"], call, BRIDGE, Values({"a": 1, "d": 1}))
                self.fails(NoValue, ["i"], call, Web.net([("a", 0, 1), ("i", 5, 5), ("z", 5, 6)]), Values({"a": 1}))
            for odd in odd_values():
                self.fails(NoValue, ["b"], ask.shows, BRIDGE, Values({"a": 1}), odd, odd)


class ClassTest(Case):
    def test_bases(self):
        self.assertEqual([ByWay.__bases__, ByCut.__bases__], [(Measure,), (Measure,)])
        self.assertEqual([Joined.__bases__, Length.__bases__, Width.__bases__],
                         [(ByWay, ByCut), (ByWay,), (ByWay, ByCut)])

    def test_methods_stand_in_their_own_class(self):
        for ask in MEASURES:
            wanted = {"__call__", "paper_of", "shows", "better", "__eq__", "walk_in"}
            if isinstance(ask, ByCut):
                wanted.add("shut_in")
            self.assertTrue(wanted <= set(vars(type(ask))))
            self.same(hasattr(ask, "shut_in"), isinstance(ask, ByCut))

    def test_words_and_ends(self):
        self.same([(ask.word, ask.good, ask.bad) for ask in MEASURES],
                  [("joined", Ratio(1), Ratio(0)), ("length", Ratio(0), Ratio(1)), ("width", Ratio(1), Ratio(0))])

    def test_equal(self):
        for one, other in itertools.product([Joined, Length, Width], repeat=2):
            self.same([one() == other(), one() != other()], [one is other, one is not other])
        for ask in MEASURES:
            for odd in odd_values():
                self.same(ask == odd, type(ask) is type(odd))

    def test_better(self):
        for x, y in itertools.product([Ratio(-1), Ratio(0), Ratio(1, 2), Ratio(1), ENDLESS], repeat=2):
            self.same([ask.better(x, y) for ask in MEASURES], [x > y, x < y, x > y])
            self.same(Length().better(y=x, x=y), x > y)


class PaperTest(Case):
    def test_told_examples(self):
        self.same([Length().shows(BRIDGE, ROOMS, Ratio(6), ("way", (1, 3), LEVELS)),
                   Length().shows(BRIDGE, ROOMS, 6, ("way", (1, 3), LEVELS))], [True, False])
        few = Values({"a": 1, "d": 1})
        few.rest = 0
        self.same([str(Joined()(BRIDGE, few)), Joined().shows(BRIDGE, few, Ratio(0), ("cut", (1, 2, 4))),
                   Joined().walk_in(BRIDGE, few)], ["0", True, None])

    def test_papers_that_are_returned(self):
        chance = random.Random(8)
        for web in sample_webs(60, 6):
            for ask in MEASURES:
                values = drawn_values(chance, web, 3)
                number, paper = ask(web, values), ask.paper_of(web, values)
                self.same(ask.shows(web, values, number, paper), True)
                self.same(ask.paper_of(web=web, values=values), paper)
                others = [Ratio(0), Ratio(1), ENDLESS, Ratio(-1), Ratio(7, 2)]
                if not number.is_endless:
                    others += [number + 1, number - Ratio(1, 2)]
                for other in others:
                    self.same(ask.shows(web, values, number=other, paper=paper), other == number)
                for odd in odd_values() + [number.top, str(number), (number,), number == Ratio(1)]:
                    if not isinstance(odd, Ratio):
                        self.same(ask.shows(web, values, odd, paper), False)

    def test_walks_and_shut_places_of_papers(self):
        chance = random.Random(9)
        for web in sample_webs(40, 6):
            for ask in MEASURES:
                values = drawn_values(chance, web, 3)
                paper = ask.paper_of(web, values)
                walk = () if paper == ("open",) else paper[1] if paper[0] == "way" else None
                self.same(ask.walk_in(web=web, values=values), walk)
                if isinstance(ask, ByCut):
                    shut = paper[1] if paper[0] == "cut" else paper[2] if len(paper) == 3 else None
                    self.same(ask.shut_in(web=web, values=values), shut)
        for ask in MEASURES:
            self.same(ask.walk_in(Web.always(), Values()), ())
            self.same(ask.walk_in(Web.never(), Values()), None)
            self.fails(NoValue, ["a"], ask.walk_in, BRIDGE, Values())
        for ask in (Joined(), Width()):
            self.same([ask.shut_in(Web.always(), Values()), ask.shut_in(Web.never(), Values())], [None, ()])
            self.fails(NoValue, ["a"], ask.shut_in, BRIDGE, Values())
        self.same(Joined().shut_in(BRIDGE, ROOMS), None)

    def test_all_right_papers_and_spoilt_ones(self):
        chance = random.Random(10)
        for web in sample_webs(25, 5):
            for ask in MEASURES:
                values = drawn_values(chance, web, 3)
                number = ask(web, values)
                papers = right_papers(ask.word, web, values)
                self.assertTrue(papers)
                for paper in papers:
                    self.same(ask.shows(web, values, number, paper), True)
                told = {frozen(paper) for paper in papers}
                for paper in chance.sample(papers, min(3, len(papers))):
                    for other in spoilt(paper):
                        if ask.word != "length" or not self.has_other_levels(web, other, paper):
                            self.same([ask.shows(web, values, number, other), other],
                                      [frozen(other) in told, other])

    def has_other_levels(self, web, other, paper):
        """Whether a changed paper of a length differs in the levels alone, which may fit as well."""
        return isinstance(other, tuple) and len(other) == 3 and frozen(other[:2]) == frozen(paper[:2]) and \
            isinstance(other[2], tuple) and len(other[2]) == len(web.joints) and \
            all(isinstance(level, Ratio) for level in other[2])

    def test_every_walk_with_all_shut_places(self):
        chance = random.Random(12)
        for web in sample_webs(25, 5):
            walks = plain_walks(web)
            shut = shut_tuples(web, walks, range(len(web)))
            values = drawn_values(chance, web, 3)
            numbers = [Ratio(0), Ratio(1), ENDLESS] + [values[name] for name in web.names]
            papers = {
                "joined": [("way", walk) for walk in walks] + [("cut", places) for places in shut],
                "length": [("way", walk, levels) for walk in walks for number in numbers if not number.is_endless
                           for levels in level_tuples(web, values, number)],
                "width": [("way", walk, places) for walk in walks for places in shut],
            }
            for ask in MEASURES:
                right = [frozen(paper) for paper in right_papers(ask.word, web, values)]
                for number in numbers + [ask(web, values)]:
                    for paper in papers[ask.word] + [("cut", ()), ("open",)]:
                        wanted = frozen(paper) in right
                        if ask.word == "length" and paper[0] == "way":
                            wanted = self.is_shortest(web, values, paper[1]) and self.fit(web, values, number, paper[2])
                        wanted = wanted and number == plain_number(ask.word, web, values)
                        self.same(ask.shows(web, values, number, paper), wanted)

    def is_shortest(self, web, values, walk):
        worths = worths_of(web, values)
        return sum(worths[place] for place in walk) == min(sum(worths[k] for k in each) for each in plain_walks(web))

    def fit(self, web, values, number, levels):
        """Whether a tuple of ratios is levels up to a number."""
        level_at = dict(zip(web.joints, levels))
        return level_at[0] == Ratio(0) and level_at[1] == number and \
            all(abs(level_at[u] - level_at[v]) <= values[name] for name, u, v in web.links)

    def test_any_value_is_no_paper(self):
        for web in (BRIDGE, Web.always(), Web.never(), Web.link("a")):
            for ask in MEASURES:
                number = ask(web, ROOMS)
                papers = [frozen(paper) for paper in right_papers(ask.word, web, ROOMS)]
                for odd in odd_values() + [("cut", ()), ("cut", []), ("way", ()), ["open"], ("way", (0,), ()), ("open", ())]:
                    self.same(ask.shows(web, ROOMS, number, odd), frozen(odd) in papers)

    def test_levels(self):
        def shows(*levels):
            return Length().shows(BRIDGE, ROOMS, Ratio(6), ("way", (1, 3), levels))

        zero, six = Ratio(0), Ratio(6)
        self.same([shows(zero, six, Ratio(4), Ratio(2)), shows(zero, six, Ratio(5), Ratio(2))], [True, True])
        # One link too steep; the ends at other levels; too few, too many, endless, no ratios.
        self.same([shows(zero, six, Ratio(11, 2), Ratio(2)), shows(zero, six, Ratio(7, 2), Ratio(2))], [False, False])
        self.same([shows(Ratio(1), six, Ratio(5), Ratio(3)), shows(zero, Ratio(5), Ratio(4), Ratio(2))], [False, False])
        self.same([shows(zero, six, Ratio(4)), shows(zero, six, Ratio(4), Ratio(2), zero)], [False, False])
        self.same([shows(zero, six, Ratio(4), 2), shows(0, six, Ratio(4), Ratio(2)), shows(zero, six, ENDLESS, Ratio(2)),
                   shows(zero, six, Ratio(4), None)], [False] * 4)

    def test_levels_of_joints_on_no_walk(self):
        web = Web.net([("a", 0, 1), ("b", 5, 6), ("c", 1, 7)])
        values = Values.two((), 0, 2)
        for levels, wanted in (((0, 2, -5, -3, 4), True), ((0, 2, -5, -2, 4), False), ((0, 2, 9, 9, 5), False),
                               ((0, 2, 9, 9, 0), True), ((0, 2, 9, 9), False)):
            paper = ("way", (0,), tuple(Ratio(level) for level in levels))
            self.same(Length().shows(web, values, Ratio(2), paper), wanted)

    def test_shut_places(self):
        values = Values.two((), 0, 0)

        def shows(*places):
            return Joined().shows(BRIDGE, values, Ratio(0), ("cut", places))

        self.same([shows(0, 1), shows(2, 3), shows(0, 3, 4), shows(0, 1, 2, 3, 4)], [True] * 4)
        self.same([shows(), shows(0,), shows(0, 3), shows(1, 0), shows(0, 1, 1), shows(False, True), shows(0, True),
                   shows(0, 1, 5), shows(-1, 0, 1), shows(0, 1, None), shows(0, 1, "c")], [False] * 11)
        self.same(Joined().shows(Web.net([("a", 2, 3)]), values, Ratio(0), ("cut", (0,))), True)
        self.same(Joined().shows(Web.net([("a", 2, 3)]), ROOMS, Ratio(0), ("cut", (0,))), False)
        self.same(Joined().shows(Web.net([("a", 2, 3)]), ROOMS, Ratio(0), ("cut", ())), True)
        self.same(Joined().shows(Web.always(), values, Ratio(0), ("cut", ())), False)

    def test_walks(self):
        values = Values.two((), 0, 1)

        def shows(*walk):
            return Joined().shows(BRIDGE, values, Ratio(1), ("way", walk))

        self.same([shows(0, 2), shows(1, 3), shows(0, 4, 3), shows(1, 4, 2)], [True] * 4)
        self.same([shows(), shows(2, 0), shows(0, 3), shows(0,), shows(0, 4), shows(0, 4, 1, 3), shows(0, 2, 2),
                   shows(False, 2), shows(0, 2, 3, 1), shows(-5, 2), shows(0, 7), shows("a", "c")], [False] * 12)

    def test_fourteen_places(self):
        web = Web.row(*[Web.bunch(*part) for part in ("abc", "def", "ghi", "jkl", "mn")])
        values = Values({name: at % 5 + 1 for at, name in enumerate("abcdefghijklmn")})
        for ask in MEASURES:
            self.same(ask.shows(web, values, ask(web, values), ask.paper_of(web, values)), True)
        self.same([str(ask(web, values)) for ask in MEASURES], ["1", "8", "3"])


if __name__ == "__main__":
    unittest.main()
