"""Points [7] and [13] by places: what is a walk, and what are shut places."""

import itertools
import unittest

from samples import Case, odd_values, plain_walks, sample_webs, spoilt
from sixasone.places import is_shut, is_walk
from sixasone.webs import Web


class PlacesTest(Case):
    def test_open_and_shut(self):
        self.same([is_walk(Web.always(), ()), is_walk(Web.never(), ())], [True, False])
        self.same([is_shut(Web.always(), ()), is_shut(Web.never(), ())], [False, True])

    def test_all_tuples_of_places(self):
        for web in sample_webs(25, 4):
            walks = plain_walks(web)
            for many in range(len(web) + 1):
                for places in itertools.permutations(range(len(web)), many):
                    self.same(is_walk(web, places), places in walks)
                    shut = web.kind != "open" and list(places) == sorted(places) and \
                        all(set(places) & set(walk) for walk in walks)
                    self.same(is_shut(web, places), shut)

    def test_any_value(self):
        for web in sample_webs(10, 4):
            for odd in odd_values():
                if odd != () or not isinstance(odd, tuple):
                    self.same([is_walk(web, odd), is_shut(web, odd)], [False, False])
            everything = tuple(range(len(web)))
            for odd in spoilt(everything):
                if not isinstance(odd, tuple) or any(type(place) is not int for place in odd):
                    self.same([is_walk(web, odd), is_shut(web, odd)], [False, False])


if __name__ == "__main__":
    unittest.main()
