"""Points [12] and [35] of values."""

import unittest

from samples import FIGURES_60, LETTERS, Case, frozen, odd_values
from sixasone.errors import BadName, BadValue, NoRatio, NoValue
from sixasone.ratios import Ratio
from sixasone.values import Values

HALF = Ratio(1, 2)
NUMBERS = [0, 1, FIGURES_60, Ratio(0), HALF, Ratio(FIGURES_60, 7)]


def is_name(thing):
    return isinstance(thing, str) and 1 <= len(thing) <= 8 and set(thing) <= set(LETTERS) and \
        thing not in ("open", "shut", "net")


def is_number(thing):
    if isinstance(thing, Ratio):
        return not thing.is_endless and thing.top >= 0
    return isinstance(thing, int) and not isinstance(thing, bool) and thing >= 0


def wrong_numbers():
    return [odd for odd in odd_values() + [Ratio(-1, 3), -FIGURES_60] if not is_number(odd)]


def sample():
    values = Values({"b": 3, "a": HALF, "zz": 0})
    values.rest = Ratio(2, 3)
    return values


class MakingTest(Case):
    def test_of_a_dict(self):
        for numbers in (None, {}):
            self.same([Values(numbers).names, len(Values(numbers)), Values(numbers).rest], [(), 0, None])
        self.same(Values().names, ())
        for number in NUMBERS:
            self.same(Values(numbers={"a": number})["a"], Ratio.of(number))

    def test_least_wrong_name_first(self):
        self.fails(BadName, ["A"], Values, {"a": -1, "A": 2})
        self.fails(BadName, ["B"], Values, {"zz": 1, "open": 1, "B": 1, "b": None})
        self.fails(BadName, [""], Values, {"A": 1, "": 1})
        self.fails(BadName, ["net"], Values, {"b": 1, "net": None})

    def test_least_wrong_number(self):
        for odd in wrong_numbers():
            self.fails(BadValue, ["b"], Values, {"c": odd, "b": odd, "a": 1})

    def test_the_dict_stays_and_counts_no_more(self):
        numbers = {"b": 3, "a": HALF}
        values = Values(numbers)
        self.same(numbers, {"b": 3, "a": HALF})
        numbers["a"] = 7
        del numbers["b"]
        self.same([values["a"], values["b"]], [HALF, Ratio(3)])
        values["a"] = 5
        self.same(numbers, {"a": 7})

    def test_two(self):
        values = Values.two(["a", "c", "a"], 0, HALF)
        self.same([values["a"], values["c"], values["b"], values.names, values.rest],
                  [Ratio(0), Ratio(0), HALF, ("a", "c"), HALF])
        self.same(Values.two(names=(), good=1, bad=0), Values.two([], Ratio(1), Ratio(0)))
        for odd in odd_values():
            if not is_name(odd):
                self.fails(BadName, [odd], Values.two, ["a", odd, "B"], None, None)
        for odd in wrong_numbers():
            self.fails(BadValue, ["good"], Values.two, ("a",), odd, None)
            self.fails(BadValue, ["good"], Values.two, (), odd, 1)
            self.fails(BadValue, ["bad"], Values.two, ("a",), 1, odd)


class TellingTest(Case):
    def test_told_and_rest(self):
        values = sample()
        self.same([values["a"], values["b"], values["zz"], values["c"]], [HALF, Ratio(3), Ratio(0), Ratio(2, 3)])
        self.same([values.names, len(values), values.rest], [("a", "b", "zz"), 3, Ratio(2, 3)])

    def test_no_value(self):
        for odd in odd_values():
            if not is_name(odd):
                self.fails(NoValue, [odd], lambda: Values()[odd])
                self.fails(NoValue, [odd], lambda: sample()[odd])
        self.fails(NoValue, ["c"], lambda: Values({"a": 1})["c"])

    def test_setting(self):
        for number in NUMBERS:
            values = sample()
            values["b"] = number
            values["c"] = number
            self.same([values["b"], values["c"], len(values)], [Ratio.of(number), Ratio.of(number), 4])

    def test_wrong_setting(self):
        for odd in odd_values():
            values = sample()
            if not is_name(odd):
                self.fails(BadName, [odd], values.__setitem__, odd, 1)
                self.fails(BadName, [odd], values.__setitem__, odd, None)
            for wrong in (odd, Ratio(-1, 5)):
                if not is_number(wrong):
                    self.fails(BadValue, ["a"], values.__setitem__, "a", wrong)
            self.assertEqual(values, sample())

    def test_the_rest(self):
        values = Values({"a": 1})
        self.same([values.rest, values.set_rest(3), values.rest], [None, None, Ratio(3)])
        for number in NUMBERS:
            values.rest = number
            self.same([values.rest, values["zz"]], [Ratio.of(number), Ratio.of(number)])
        values.rest = None
        self.fails(NoValue, ["b"], lambda: values["b"])
        values.set_rest(number=HALF)
        for odd in wrong_numbers():
            if odd is not None:
                self.fails(BadValue, ["rest"], values.set_rest, odd)
                with self.assertRaises(BadValue) as caught:
                    values.rest = odd
                self.same(caught.exception.name, "rest")
        self.same(values.rest, HALF)

    def test_holding(self):
        for odd in odd_values() + ["a", "b", "c"]:
            self.same(odd in sample(), isinstance(odd, str) and odd in ("a", "b", "zz"))

    def test_not_iterated(self):
        with self.assertRaises(TypeError):
            list(sample())

    def test_equal(self):
        self.same([sample() == sample(), sample() != sample(), Values() == Values({})], [True, False, True])
        other = sample()
        other.rest = None
        self.same([sample() == other, other == sample()], [False, False])
        other = sample()
        other["b"] = 4
        self.same(sample() == other, False)
        other["b"] = Ratio(9, 3)
        self.same(sample() == other, True)
        other["q"] = Ratio(2, 3)
        self.same(sample() == other, False)
        self.same(Values({"a": 1, "b": 2}) == Values({"b": 2, "a": 1}), True)
        for odd in odd_values():
            if not isinstance(odd, Values):
                self.same([sample() == odd, odd == Values()], [False, False])

    def test_text(self):
        self.same([str(Values()), str(sample())], ["none", "a 1/2, b 3, zz 0, * 2/3"])
        values = Values({"b": Ratio(6, 4)})
        self.same(str(values), "b 3/2")
        values = Values()
        values.rest = 1
        self.same(str(values), "* 1")


class NewValuesTest(Case):
    def test_copy(self):
        values = sample()
        other = values.copy()
        self.assertEqual(other, values)
        other["a"] = 9
        other.rest = None
        self.assertEqual(values, sample())
        other = values.copy()
        values["b"] = 1
        values.rest = 5
        self.assertEqual(other, sample())

    def test_turned(self):
        values = Values({"a": HALF, "b": 1, "c": 0})
        self.assertEqual(values.turned(), Values({"a": HALF, "b": 0, "c": 1}))
        values.rest = Ratio(1, 3)
        self.same([values.turned().rest, values.turned().turned() == values], [Ratio(2, 3), True])
        values.rest = 1
        self.same(values.turned().rest, Ratio(0))
        for rest in (Ratio(4, 3), 2):
            values.rest = rest
            self.fails(BadValue, ["rest"], values.turned)
        values["d"] = Ratio(3, 2)
        values["c"] = 2
        self.fails(BadValue, ["c"], values.turned)
        self.same(str(values), "a 1/2, b 1, c 2, d 3/2, * 2")

    def test_over(self):
        values = Values({"a": HALF, "b": 3})
        self.assertEqual(values.over(), Values({"a": 2, "b": Ratio(1, 3)}))
        values.rest = Ratio(3, 4)
        self.same([values.over().rest, values.over().over() == values], [Ratio(4, 3), True])
        values.rest = 0
        self.fails(NoRatio, [], values.over)
        values.rest = 1
        values["c"] = 0
        self.fails(NoRatio, [], values.over)

    def test_times(self):
        self.same(str(sample().times(3)), "a 3/2, b 9, zz 0, * 2")
        self.same(str(sample().times(x=HALF)), "a 1/4, b 3/2, zz 0, * 1/3")
        self.same(str(Values({"a": 2}).times(0)), "a 0")
        self.same(sample().times(FIGURES_60)["b"], Ratio(3 * FIGURES_60))
        for odd in wrong_numbers():
            self.fails(BadValue, ["times"], sample().times, odd)
            self.fails(BadValue, ["times"], Values().times, odd)

    def test_elder_values_stay(self):
        values = Values({"a": HALF, "b": 1})
        values.rest = Ratio(1, 4)
        told = frozen(values)
        for other in (values.turned(), values.over(), values.times(2), values.copy()):
            other["a"] = 77
            other.rest = 78
            self.same(frozen(values), told)


class TrialTest(Case):
    def change(self, values):
        values["a"] = 7
        values["new"] = 8
        values.rest = None

    def test_behind_the_block(self):
        values = sample()
        with values.trial() as held:
            self.assertIs(held, values)
            self.change(held)
            self.same([values["a"], "new" in values, values.rest], [Ratio(7), True, None])
        self.assertEqual(values, sample())
        values["a"] = 9
        self.same(values["a"], Ratio(9))

    def test_an_error_goes_on(self):
        values = sample()
        for error in (KeyError, BadName):
            with self.assertRaises(error):
                with values.trial() as held:
                    self.change(held)
                    raise error("x")
            self.assertEqual(values, sample())

    def test_as_it_was_when_the_block_began(self):
        values = sample()
        trial = values.trial()
        values["a"] = 5
        with trial:
            values["a"] = 6
        self.same(values["a"], Ratio(5))

    def test_trials_in_one_another(self):
        values = sample()
        with values.trial():
            values["a"] = 1
            with values.trial():
                self.change(values)
                with self.assertRaises(KeyError):
                    with values.trial():
                        values["c"] = 2
                        raise KeyError("x")
                self.same(["c" in values, values["a"]], [False, Ratio(7)])
            self.same([values["a"], values.rest, "new" in values], [Ratio(1), Ratio(2, 3), False])
            values["a"] = 4
        self.assertEqual(values, sample())

    def test_tried(self):
        values = sample()

        def ask(held):
            self.assertIs(held, values)
            self.change(held)
            return [held["a"], held]

        self.same(values.tried(ask)[0], Ratio(7))
        self.assertEqual(values, sample())
        self.same(values.tried(ask=lambda held: held.tried(lambda inner: inner["zzz"])), Ratio(2, 3))
        self.fails(BadValue, ["rest"], values.tried, lambda held: [self.change(held), held.set_rest(-1)])
        self.assertEqual(values, sample())


if __name__ == "__main__":
    unittest.main()
