"""Point [11]: idle names and bare webs."""

import unittest

from samples import Case, plain_walks, sample_webs
from sixasone.cuts import cuts
from sixasone.idles import bare, idle
from sixasone.ways import ways
from sixasone.webs import Web


class IdlesTest(Case):
    def test_told_example(self):
        web = Web.net([("a", 2, 3)])
        self.same([idle(web), bare(web)], [("a",), Web.never()])

    def test_open_and_shut(self):
        self.same([idle(Web.always()), idle(Web.never())], [(), ()])
        self.same([bare(Web.always()), bare(Web.never())], [Web.always(), Web.never()])

    def test_loops_and_links_beside(self):
        web = Web.net([("l", 0, 0), ("x", 0, 1), ("k", 5, 6), ("d", 0, 7), ("y", 0, 3), ("y", 3, 3), ("z", 3, 1), ("z", 8, 1)])
        self.same([idle(web), bare(web).links], [("d", "k", "l"), (("x", 0, 1), ("y", 0, 3), ("z", 1, 3))])
        # A ring that meets the rest at one joint is on no walk.
        web = Web.net([("a", 0, 2), ("b", 2, 1), ("c", 2, 3), ("d", 3, 4), ("e", 4, 2)])
        self.same([idle(web), str(bare(web))], [("c", "d", "e"), "[0-a-2 1-b-2]"])

    def test_against_a_plain_search(self):
        for web in sample_webs(60, 6):
            used = sorted({place for walk in plain_walks(web) for place in walk})
            names = {web.links[place][0] for place in used}
            self.same(idle(web=web), tuple(name for name in web.names if name not in names))
            if web.kind != "open":
                self.assertEqual(bare(web=web), Web.net([web.links[place] for place in used]))
            self.same([list(ways(bare(web))), list(cuts(bare(web)))], [list(ways(web)), list(cuts(web))])
            self.same(idle(bare(web)), ())


if __name__ == "__main__":
    unittest.main()
