"""Points [3] and [34] of Ratio: exact fractions and endless."""

import itertools
import re
import unittest
from fractions import Fraction

from samples import FIGURES_60, Case, odd_values
from sixasone.errors import BadRatio, BadText, NoRatio
from sixasone.ratios import Ratio

ENDLESS = Ratio.endless()
SMALL = [Fraction(top, bottom) for top in range(-4, 5) for bottom in (1, 2, 3)]
LARGE = [Fraction(FIGURES_60, 7), Fraction(-FIGURES_60), Fraction(1, FIGURES_60)]
RIGHT = re.compile(r"endless|-?[1-9][0-9]*(/[1-9][0-9]*)?|0(/[1-9][0-9]*)?")


def ratio(fraction):
    return Ratio(fraction.numerator, fraction.denominator)


def fraction(number):
    return Fraction(number.top, number.bottom)


def is_live(text):
    """Whether some right text begins with a text."""
    return any(RIGHT.fullmatch(text + end) for end in ["", "1"] + ["endless"[at:] for at in range(8)])


class MakingTest(Case):
    def test_lowest_terms(self):
        for top, bottom in itertools.product(range(-12, 13), range(1, 13)):
            made = Ratio(top, bottom)
            wanted = Fraction(top, bottom)
            self.same((made.top, made.bottom), (wanted.numerator, wanted.denominator))
        self.same((Ratio(5).top, Ratio(top=6, bottom=4).bottom), (5, 2))
        self.same(Ratio(FIGURES_60, FIGURES_60).top, 1)

    def test_endless(self):
        self.same((ENDLESS.top, ENDLESS.bottom), (1, 0))
        self.same([ENDLESS.is_endless, ENDLESS.is_whole, Ratio(0).is_endless], [True, False, False])
        self.same([Ratio(4, 2).is_whole, Ratio(1, 2).is_whole], [True, False])

    def test_wrong_tops_and_bottoms(self):
        for odd in odd_values():
            whole = isinstance(odd, int) and not isinstance(odd, bool)
            if not whole:
                self.fails(BadRatio, [0], Ratio, odd)
                self.fails(BadRatio, [0], Ratio, odd, 0)
            if not whole or odd < 1:
                self.fails(BadRatio, [1], Ratio, 1, odd)

    def test_of(self):
        half = Ratio(1, 2)
        self.assertIs(Ratio.of(half), half)
        self.assertIs(Ratio.of(ENDLESS), ENDLESS)
        self.same(Ratio.of(-FIGURES_60), Ratio(-FIGURES_60))
        for odd in odd_values():
            if not isinstance(odd, Ratio) and (isinstance(odd, bool) or not isinstance(odd, int)):
                self.fails(BadRatio, [0], Ratio.of, odd)


class ListsTest(Case):
    def test_of_none(self):
        for none in ([], ()):
            self.same([Ratio.total(none), Ratio.greatest(none), Ratio.least(none)], [Ratio(0), Ratio(0), ENDLESS])

    def test_of_some(self):
        for some in itertools.combinations(SMALL[::2] + LARGE, 3):
            items = [ratio(one) for one in some]
            self.same(Ratio.total(items), ratio(sum(some)))
            self.same(Ratio.greatest(tuple(items)), ratio(max(some)))
            self.same(Ratio.least(items), ratio(min(some)))
        self.same(Ratio.greatest([-3, Ratio(-7, 2)]), Ratio(-3))
        self.same([Ratio.total([3]), Ratio.greatest([3]), Ratio.least([3])], [Ratio(3)] * 3)

    def test_with_endless(self):
        self.same(Ratio.total([1, ENDLESS, 0, ENDLESS]), ENDLESS)
        self.same(Ratio.greatest([1, ENDLESS, -1]), ENDLESS)
        self.same(Ratio.least([ENDLESS, 5, ENDLESS]), Ratio(5))
        self.same(Ratio.least([ENDLESS]), ENDLESS)
        for items in ([ENDLESS, -1], [-1, ENDLESS], [5, -1, ENDLESS], [ENDLESS, 5, Ratio(-1, 2)]):
            self.fails(NoRatio, [], Ratio.total, items)

    def test_wrong_items_come_first(self):
        for ask in (Ratio.total, Ratio.greatest, Ratio.least):
            for odd in odd_values():
                if not isinstance(odd, Ratio) and (isinstance(odd, bool) or not isinstance(odd, int)):
                    self.fails(BadRatio, [0], ask, [odd])
                    self.fails(BadRatio, [3], ask, (-1, ENDLESS, Ratio(2), odd, odd))

    def test_lists_stay(self):
        items = [3, Ratio(1, 2)]
        Ratio.total(items), Ratio.greatest(items), Ratio.least(items)
        self.same(items, [3, Ratio(1, 2)])


class ReckoningTest(Case):
    def test_with_ratios_and_whole_numbers(self):
        for one, two in itertools.product(SMALL + LARGE, repeat=2):
            x, y = ratio(one), ratio(two)
            self.same([x + y, x - y, x * y], [ratio(one + two), ratio(one - two), ratio(one * two)])
            if two.denominator == 1:
                n = int(two)
                self.same([x + n, x - n, x * n, n + x, n - x, n * x],
                          [ratio(one + n), ratio(one - n), ratio(one * n), ratio(n + one), ratio(n - one), ratio(n * one)])
            if two:
                self.same(x.over(y), ratio(one / two))
                self.same([x // y, x % y], [one // two, ratio(one % two)])
                if two.denominator == 1:
                    self.same([x.over(n), x // n, x % n], [ratio(one / n), one // n, ratio(one % n)])
            if one and two.denominator == 1:
                self.same([n // x, n % x], [n // one, ratio(n % one)])

    def test_signs_of_one(self):
        for one in SMALL + LARGE:
            self.same([-ratio(one), abs(ratio(one)), bool(ratio(one))], [ratio(-one), ratio(abs(one)), bool(one)])
        self.same([abs(ENDLESS), bool(ENDLESS)], [ENDLESS, True])

    def test_signs_that_bind(self):
        x = elder = Ratio(7, 2)
        x += 1
        self.same(x, Ratio(9, 2))
        x -= Ratio(1, 2)
        x *= 2
        self.same(x, Ratio(8))
        x %= 3
        self.same(x, Ratio(2))
        x //= Ratio(2, 3)
        self.same(x, 3)
        n = 5
        n += Ratio(1, 2)
        self.same(n, Ratio(11, 2))
        self.same(elder, Ratio(7, 2))

    def test_endless_sums_and_products(self):
        for y in (0, 1, Ratio(1, 2), ENDLESS):
            self.same([ENDLESS + y, y + ENDLESS], [ENDLESS, ENDLESS])
        for y in (1, Ratio(1, 2), ENDLESS):
            self.same([ENDLESS * y, y * ENDLESS], [ENDLESS, ENDLESS])
        for y in (-1, Ratio(-1, 2)):
            self.fails(NoRatio, [], lambda: ENDLESS + y)
            self.fails(NoRatio, [], lambda: y + ENDLESS)
        for y in (-1, Ratio(-1, 2), 0, Ratio(0)):
            self.fails(NoRatio, [], lambda: ENDLESS * y)
            self.fails(NoRatio, [], lambda: y * ENDLESS)

    def test_endless_quotients(self):
        self.same([ENDLESS.over(1), ENDLESS.over(Ratio(1, 2))], [ENDLESS, ENDLESS])
        self.same([Ratio(3).over(ENDLESS), Ratio(0).over(ENDLESS), Ratio(-3).over(y=ENDLESS)], [Ratio(0)] * 3)
        for y in (0, Ratio(0), -1, ENDLESS):
            self.fails(NoRatio, [], ENDLESS.over, y)

    def test_no_such_result(self):
        for y in (-1, 0, 1, Ratio(1, 2), ENDLESS):
            self.fails(NoRatio, [], lambda: ENDLESS - y)
            self.fails(NoRatio, [], lambda: y - ENDLESS)
            self.fails(NoRatio, [], lambda: ENDLESS // y)
            self.fails(NoRatio, [], lambda: y // ENDLESS)
            self.fails(NoRatio, [], lambda: ENDLESS % y)
            self.fails(NoRatio, [], lambda: y % ENDLESS)
        self.fails(NoRatio, [], lambda: -ENDLESS)
        for x in (Ratio(0), Ratio(1, 2), ENDLESS):
            for zero in (0, Ratio(0)):
                self.fails(NoRatio, [], x.over, zero)
                self.fails(NoRatio, [], lambda: x // zero)
                self.fails(NoRatio, [], lambda: x % zero)
        self.fails(NoRatio, [], lambda: 1 // Ratio(0))
        self.fails(NoRatio, [], lambda: 1 % Ratio(0))


class ComparingTest(Case):
    def test_order(self):
        for one, two in itertools.product(SMALL + LARGE, repeat=2):
            x, y = ratio(one), ratio(two)
            self.same([x < y, x <= y, x > y, x >= y, x == y, x != y],
                      [one < two, one <= two, one > two, one >= two, one == two, one != two])
            if two.denominator == 1:
                n = int(two)
                self.same([x < n, x <= n, x > n, x >= n], [one < n, one <= n, one > n, one >= n])
                self.same([n < x, n <= x, n > x, n >= x], [n < one, n <= one, n > one, n >= one])

    def test_endless_is_greatest(self):
        for y in (-1, 0, FIGURES_60, Ratio(FIGURES_60)):
            self.same([y < ENDLESS, y <= ENDLESS, y > ENDLESS, y >= ENDLESS], [True, True, False, False])
            self.same([ENDLESS < y, ENDLESS <= y, ENDLESS > y, ENDLESS >= y], [False, False, True, True])
        other = Ratio.endless()
        self.same([ENDLESS < other, ENDLESS <= other, ENDLESS > other, ENDLESS >= other, ENDLESS == other],
                  [False, True, False, True, True])

    def test_equal_to_nothing_else(self):
        for odd in odd_values():
            if not isinstance(odd, Ratio):
                self.same([Ratio(1) == odd, odd == Ratio(1), Ratio(0) == odd, Ratio(1) != odd],
                          [False, False, False, True])
        self.same(Ratio(2, 4) == Ratio(1, 2), True)


class TextTest(Case):
    def test_written(self):
        for number, text in ((Ratio(3, 4), "3/4"), (Ratio(-2), "-2"), (Ratio(-1, 2), "-1/2"), (Ratio(0, 5), "0"),
                             (ENDLESS, "endless"), (Ratio(FIGURES_60), "9" * 60)):
            self.same([str(number), repr(number)], [text, f"Ratio({text})"])

    def test_read_back(self):
        for one in SMALL + LARGE:
            self.same(Ratio.read(str(ratio(one))), ratio(one))
        self.same(Ratio.read(text="endless"), ENDLESS)
        self.same([Ratio.read("6/4"), Ratio.read("0/7"), Ratio.read("-10/5")], [Ratio(3, 2), Ratio(0), Ratio(-2)])
        self.same(Ratio.read("1" * 1000).top, int("1" * 1000))

    def test_told_wrong_texts(self):
        for text, at in (("2/0", 2), ("03", 1), ("-0", 1), ("3/", 2), ("endles", 6), ("endlessx", 7), ("", 0), ("-", 1),
                         ("--1", 1), ("+1", 0), (" 1", 0), ("1 ", 1), ("1/2/3", 3), ("1/-2", 2), ("1/2\n", 3), ("e", 1),
                         ("1.5", 1), ("-endless", 1), ("1/endless", 2), ("00", 1), ("0/0", 2), ("1/02", 2), ("x", 0)):
            self.fails(BadText, [at], Ratio.read, text)

    def test_all_short_texts(self):
        for many in range(6):
            for signs in itertools.product("01/-e", repeat=many):
                self.check("".join(signs))
        for cut in range(8):
            for sign in "endls0/ ":
                self.check("endless"[:cut] + sign)

    def check(self, text):
        if RIGHT.fullmatch(text):
            top, _, bottom = text.partition("/")
            wanted = ENDLESS if text == "endless" else ratio(Fraction(int(top), int(bottom or 1)))
            self.same(Ratio.read(text), wanted)
        else:
            live = max(at for at in range(len(text) + 1) if is_live(text[:at]))
            self.fails(BadText, [live], Ratio.read, text)

    def test_no_text(self):
        for odd in odd_values():
            if not isinstance(odd, str):
                self.fails(BadText, [0], Ratio.read, odd)


if __name__ == "__main__":
    unittest.main()
