"""Stage 7: values that part two webs."""

import unittest

from drawn import HIGH, LOW, web_pairs
from plain import plain_number
from samples import Case, frozen
from sixasone.named import WORDS, measure
from sixasone.orders import compare
from sixasone.partings import parted, partings
from sixasone.ratios import Ratio
from sixasone.values import Values
from sixasone.ways import least_ways
from sixasone.webs import Web


def plain_row(word, one, other, way):
    """The tuple of a measure, by plain searches."""
    good, bad = (0, 1) if word == "length" else (1, 0)
    values = Values({name: good for name in way})
    values.rest = bad
    return (word, values, plain_number(word, one, values), plain_number(word, other, values))


class PartingsTest(Case):
    def test_two_webs(self):
        self.same(partings(HIGH, LOW, ("b",)), [
            (word, Values.two(("b",), 0 if word == "length" else 1, 1 if word == "length" else 0),
             Ratio(0) if word == "length" else Ratio(1), Ratio(1) if word == "length" else Ratio(0)) for word in WORDS])

    def test_any_names(self):
        for one, other in web_pairs(60, 4):
            for way in [(), ("a",), ("b", "a"), ("a", "a"), ("zz",), ("a", "b", "c")] + least_ways(one):
                told = [frozen(one), frozen(other)]
                found = partings(one=one, other=other, way=way)
                self.same(found, [plain_row(word, one, other, way) for word in WORDS])
                self.assertTrue(all(row[1] == plain_row(row[0], one, other, way)[1] for row in found))
                self.same(partings(one, other, way), found)
                self.same([frozen(one), frozen(other)], told)

    def test_each_has_values_of_its_own(self):
        found = partings(HIGH, LOW, ("b",))
        found[0][1]["b"] = 7
        found[1][1].rest = 9
        self.same([str(row[1]) for row in found],
                  ["b 7, * 0", "b 0, * 9", "b 1, * 0", "b 1, * 0", "b 1, * 0", "b 1, * 0"])
        found.clear()
        self.same(len(partings(HIGH, LOW, ("b",))), 6)


class PartedTest(Case):
    def test_drawn_webs(self):
        none = 0
        for one, other in web_pairs(120, 4):
            verdict = compare(one, other)
            for word in WORDS:
                found = parted(asked=measure(word), one=one, other=other)
                none += found is None
                self.same(found is None, bool(verdict))
                if not verdict:
                    self.same(found, plain_row(word, one, other, verdict.way))
        self.assertTrue(none > 100)

    def test_open_and_shut(self):
        self.same([parted(measure(word), Web.never(), Web.always()) for word in WORDS], [None] * 6)
        found = [parted(measure(word), Web.always(), Web.never()) for word in WORDS]
        self.same([(word, str(values)) for word, values, _, _ in found],
                  [(word, "* 1" if word == "length" else "* 0") for word in WORDS])
        self.same([row[2:] for row in found], [
            (measure(word)(Web.always(), Values()), measure(word)(Web.never(), Values())) for word in WORDS])


if __name__ == "__main__":
    unittest.main()
