"""Packings and their prices."""

import itertools
import random
import time
import unittest
from fractions import Fraction

from samples import FIGURES_60, Case, frozen, odd_values, spoilt
from sixasone.errors import NoRatio
from sixasone.ratios import Ratio
from sixasone.simplex import packing, shows_packing

ENDLESS = Ratio.endless()


def fractions_of(ratios):
    return [Fraction(ratio.top, ratio.bottom) for ratio in ratios]


def plain_shows(columns, bounds, thing):
    """Whether any value is a packing and prices, word by word."""
    if type(thing) is not tuple or len(thing) != 2:
        return False
    for part, many in zip(thing, (len(columns), len(bounds))):
        if type(part) is not tuple or len(part) != many or any(type(each) is not Ratio for each in part):
            return False
        if any(each.bottom == 0 or each.top < 0 for each in part):
            return False
    weights, prices = map(fractions_of, thing)
    fits = all(sum(weight * column[at] for weight, column in zip(weights, columns)) <= bound
               for at, bound in enumerate(bounds))
    costs = all(sum(price * part for price, part in zip(prices, column)) >= 1 for column in columns)
    return fits and costs and sum(weights) == sum(price * bound for price, bound in zip(prices, bounds))


def corners(columns, bounds):
    """The sums of the weights of all packings that are corners, for few columns."""
    many = len(columns)
    rows = [([Fraction(column[at]) for column in columns], Fraction(bound)) for at, bound in enumerate(bounds)]
    rows += [([Fraction(-(at == other)) for other in range(many)], Fraction(0)) for at in range(many)]
    for some in itertools.combinations(rows, many):
        point = solution([list(left) + [right] for left, right in some])
        if point and all(sum(x * y for x, y in zip(left, point)) <= right for left, right in rows):
            yield sum(point)


def solution(rows):
    """What solves just as many equations, or None."""
    many = len(rows)
    for at in range(many):
        found = [row for row in rows[at:] if row[at]]
        if not found:
            return None
        rows.remove(found[0])
        rows.insert(at, [part / found[0][at] for part in found[0]])
        for other in range(many):
            if other != at:
                rows[other] = [x - rows[other][at] * y for x, y in zip(rows[other], rows[at])]
    return [row[-1] for row in rows]


def drawn(chance, most_columns=7, most_indexes=6, highest=3):
    """Columns and bounds, many of them 0."""
    many = chance.randrange(1, most_indexes + 1)
    columns = [tuple(chance.choice([0, 0, 1, chance.randrange(highest + 1)]) for _ in range(many))
               for _ in range(chance.randrange(most_columns + 1))]
    return [column for column in columns if any(column)], tuple(chance.choice([0, 1, 1, 2, 5]) for _ in range(many))


class PackingTest(Case):
    def check(self, columns, bounds):
        told = frozen([columns, bounds])
        found = packing(columns=columns, bounds=bounds)
        self.assertTrue(plain_shows(columns, bounds, found), (columns, bounds, found))
        self.same(shows_packing(columns, bounds, found), True)
        self.same(packing(columns, bounds), found)
        self.same(frozen([columns, bounds]), told)
        return found

    def test_by_hand(self):
        self.same(self.check([(1, 1)], (2, 3))[0], (Ratio(2),))
        self.same(self.check([(2, 0), (0, 2)], (1, 1))[0], (Ratio(1, 2), Ratio(1, 2)))
        # Each two of three: more than one half of each is too much.
        self.same(self.check([(1, 1, 0), (0, 1, 1), (1, 0, 1)], (1, 1, 1)), ((Ratio(1, 2),) * 3, (Ratio(1, 2),) * 3))
        self.same(self.check([(3,)], (FIGURES_60,))[0], (Ratio(FIGURES_60, 3),))

    def test_drawn_ones(self):
        chance = random.Random(131)
        for _ in range(700):
            self.check(*drawn(chance))
        for _ in range(60):
            self.check(*drawn(chance, 14, 9, 5))

    def test_against_all_corners(self):
        chance = random.Random(132)
        for _ in range(120):
            columns, bounds = drawn(chance, 3, 3)
            best = max(corners(columns, bounds)) if columns else 0
            self.same(sum(fractions_of(self.check(columns, bounds)[0])), best)

    def test_without_columns_or_bounds(self):
        for bounds in ((), (0,), (3, 0, 1)):
            weights, prices = self.check([], bounds)
            self.same([weights, len(prices)], [(), len(bounds)])
        self.same(packing([], ()), ((), ()))

    def test_bounds_of_0(self):
        for columns in ([(1, 0), (1, 1)], [(1, 2), (1, 1), (2, 1)], [(1, 1), (1, 1)]):
            self.assertEqual(sum(fractions_of(self.check(columns, (0, 5))[0])), 0)
        self.same(self.check([(0, 1), (1, 0), (1, 1)], (0, 5))[0], (Ratio(5), Ratio(0), Ratio(0)))

    def test_columns_of_0(self):
        for columns, bounds in (([(0,)], (1,)), ([(1, 0), (0, 0)], (0, 0)), ([()], ()), ([(), ()], ()), ([(0, 0), (1, 1)], (5, 5))):
            told = frozen(columns)
            self.fails(NoRatio, [], packing, columns, bounds)
            self.same(frozen(columns), told)

    def test_no_round_without_end(self):
        # Many bounds of 0 and equal columns: each pivot may leave the sum as it is.
        chance = random.Random(133)
        for _ in range(150):
            many = chance.randrange(2, 7)
            columns = [tuple(chance.choice([0, 1, 1, 2]) for _ in range(many)) for _ in range(10)]
            columns = [column for column in columns if any(column)]
            self.check(columns + columns[:3], tuple(chance.choice([0, 0, 0, 1]) for _ in range(many)))

    def test_great_numbers(self):
        chance = random.Random(134)
        begun = time.process_time()
        columns = [tuple(chance.randrange(FIGURES_60) for _ in range(8)) for _ in range(16)]
        self.check(columns, tuple(chance.randrange(FIGURES_60) for _ in range(8)))
        self.assertTrue(time.process_time() - begun < 2)


class ShowsPackingTest(Case):
    def test_of_another_hand(self):
        columns, bounds = [(1, 0), (1, 0), (0, 1)], (1, 1)
        ones = (Ratio(1), Ratio(1))
        for weights, wanted in (((1, 0, 1), True), ((0, 1, 1), True), (((1, 2), (1, 2), 1), True), (((2, 3), (1, 3), 1), True),
                                ((1, 1, 1), False), ((0, 0, 1), False), ((2, -1, 1), False), ((1, 0, (1, 2)), False),
                                # The sum is right, but more than the first or the last bound.
                                ((2, 0, 0), False), ((1, 1, 0), False), ((0, 0, 2), False)):
            told = tuple(Ratio(*part) if isinstance(part, tuple) else Ratio(part) for part in weights)
            self.same(shows_packing(columns=columns, bounds=bounds, thing=(told, ones)), wanted)
        weights = (Ratio(1), Ratio(0), Ratio(1))
        for prices, wanted in (((1, 1), True), ((2, 1), False), ((1, 0), False), ((2, 0), False), ((3, -1), False)):
            self.same(shows_packing(columns, bounds, (weights, tuple(map(Ratio, prices)))), wanted)
        # Prices that are no matter, where the bound is 0.
        for price in (1, 2, FIGURES_60):
            self.same(shows_packing([(1,)], (0,), ((Ratio(0),), (Ratio(price),))), True)
        self.same(shows_packing([(1,)], (0,), ((Ratio(0),), (Ratio(1, 2),))), False)

    def test_spoilt_pairs(self):
        chance = random.Random(135)
        for _ in range(60):
            columns, bounds = drawn(chance, 4, 4)
            found = packing(columns, bounds)
            things = spoilt(found) + [list(found), found[0], (list(found[0]), found[1]), (found[0], list(found[1])),
                                      found + ((),), (found[1], found[0]), (found[0] + (Ratio(0),), found[1])]
            for at, part in enumerate(found):
                for place, number in enumerate(part):
                    for other in (ENDLESS, -number, number - 1, number + 1, number.top, True, number.over(2)):
                        changed = part[:place] + (other,) + part[place + 1:]
                        things.append((changed, found[1]) if at == 0 else (found[0], changed))
            for thing in things:
                told = frozen(thing)
                self.same([shows_packing(columns, bounds, thing), thing], [plain_shows(columns, bounds, thing), thing])
                self.same(frozen(thing), told)

    def test_any_value(self):
        for columns, bounds in (([], ()), ([(1,)], (1,)), ([(0,)], (1,)), ([()], ()), ([(0, 0), (1, 0)], (0, 0))):
            for odd in odd_values() + [(odd, odd) for odd in odd_values()] + [((), odd) for odd in odd_values()]:
                self.same([shows_packing(columns, bounds, odd), odd], [plain_shows(columns, bounds, odd), odd])
        self.same([shows_packing([], (), ((), ())), shows_packing([()], (), ((Ratio(1),), ())),
                   shows_packing([(0,)], (1,), ((Ratio(1),), (Ratio(1),)))], [True, False, False])


if __name__ == "__main__":
    unittest.main()
