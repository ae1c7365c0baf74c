"""Point [26]: normal forms."""

import random
import unittest

from drawn import plain_web
from samples import LETTERS, Case, all_name_sets
from plain import plain_joins
from sixasone.errors import NotPlain, NotTied
from sixasone.normals import normal
from sixasone.webs import Web

BRIDGE = Web.net([("a", 0, 2), ("b", 0, 3), ("m", 2, 3), ("c", 2, 1), ("d", 3, 1)])


def tied_webs(count, seed, most=6):
    """Tied, plain webs."""
    chance = random.Random(seed)
    webs = []
    while len(webs) < count:
        names = chance.sample(LETTERS[:most], chance.randrange(1, most + 1))
        web = plain_web(chance, names)
        if web.is_tied:
            webs.append(web)
    return webs


def mixed(chance, web):
    """The web with the parts of all rows and bunches in any order."""
    parts = [mixed(chance, part) for part in web.parts]
    chance.shuffle(parts)
    return web if not parts else Web.row(*parts) if web.kind == "row" else Web.bunch(*parts)


def joining(web):
    """The sets of names that join a web."""
    return [names for names in all_name_sets(LETTERS[:6]) if plain_joins(web, names)]


def normal_text(web):
    """The text of the normal form, by the words of the point."""
    texts = sorted(normal_text(part) for part in web.parts)
    return "(" + (" & " if web.kind == "row" else " | ").join(texts) + ")" if texts else str(web)


class NormalTest(Case):
    def test_texts(self):
        for text, wanted in (("(d & (c | (b & a)))", "(((a & b) | c) & d)"), ("a", "a"), ("open", "open"), ("shut", "shut"),
                             ("(b & a)", "(a & b)"), ("(ab & a & (d | c))", "((c | d) & a & ab)"),
                             ("((b & a) | (d & (f | e)) | c)", "(((e | f) & d) | (a & b) | c)")):
            self.same(str(normal(web=Web.read(text))), wanted)

    def test_by_its_words(self):
        for web in tied_webs(200, 91):
            told = str(web)
            self.same([str(normal(web)), str(web)], [normal_text(web), told])
            self.same(normal(normal(web)), normal(web))
            self.assertTrue(normal(web) == normal(mixed(random.Random(92), web)))

    def test_alike_exactly_if_equal(self):
        webs = tied_webs(60, 93, 4) + [Web.always(), Web.never()]
        told = [(normal(web), joining(web)) for web in webs]
        equal = 0
        for form, sets in told:
            for other, others in told:
                self.same(form == other, sets == others)
                equal += form == other
        self.assertTrue(len(webs) + 40 < equal, equal)

    def test_no_net_first(self):
        self.fails(NotTied, [], normal, BRIDGE)
        self.fails(NotTied, [], normal, Web.net([("a", 0, 1)]))
        self.fails(NotTied, [], normal, Web.row("a", "a", Web.net([("b", 0, 1)])))
        self.fails(NotTied, [], normal, Web.net([("a", 0, 1), ("a", 0, 1)]))
        self.fails(NotPlain, ["b"], normal, Web.row("c", "b", "a", "c", "b"))
        self.fails(NotPlain, ["a"], normal, Web.read("((a & b) | (a & c))"))


if __name__ == "__main__":
    unittest.main()
