"""What several tests use: checks of errors, odd values, sample webs and plain searches."""

import itertools
import random
import unittest
from fractions import Fraction

from sixasone.errors import BadText, WebError
from sixasone.measures import Joined, Length, Width
from sixasone.ratios import Ratio
from sixasone.values import Values
from sixasone.webs import Web

FIGURES_60 = int("9" * 60)
LETTERS = "abcdefghijklmnopqrstuvwxyz"


def odd_values():
    """Any values of all kinds, none of them a name of a sample web."""
    return [
        None, True, False, 0, 1, -1, 100, FIGURES_60, "", "A", "open", "shut", "net", "a b", "a ", "abcdefghi", "a1",
        "a\n", "zzz", (), [], {}, ("a",), ["a"], {"a": 1}, (("a", 0, 1),), [("a", 0, 1)], (((("q",),),),),
        Ratio(1), Ratio(-1, 2), Ratio.endless(), Web.always(), Web.never(), Web.row("q", "r"), Values(), Values({"a": 1}),
        Joined(), Length(), Width(), BadText(0), ("way",), ("cut", ()), ("open",),
    ]


def frozen(thing):
    """A text that tells any value with its kind, at any depth."""
    if isinstance(thing, (list, tuple)):
        return f"{type(thing).__name__}({', '.join(frozen(item) for item in thing)})"
    if isinstance(thing, dict):
        return f"dict({', '.join(sorted(frozen(key) + ':' + frozen(thing[key]) for key in thing))})"
    return f"{type(thing).__name__} {thing}"


def spoilt(thing):
    """Copies of a tuple with one part changed, at any depth; none of them equal in kind to it."""
    found = [list(thing), thing + (0,), thing + (Ratio(0),), (thing,), None]
    if thing:
        found += [thing[:-1], thing[1:]]
    for at, item in enumerate(thing):
        others = []
        if isinstance(item, tuple):
            others = spoilt(item)
        elif isinstance(item, bool) or item is None:
            others = [0]
        elif isinstance(item, int):
            others = [item == 1, -1 - item, str(item), Ratio(item), item + 100, None]
        elif isinstance(item, str):
            others = [item + "x", item.upper(), (item,), None, 0]
        elif isinstance(item, Ratio):
            others = [item.top, str(item), item + 1, Ratio.endless(), None, True, (item,)]
        found += [thing[:at] + (other,) + thing[at + 1:] for other in others]
    return [other for other in found if frozen(other) != frozen(thing)]


class Case(unittest.TestCase):
    """A test case that can check errors and kinds."""

    def fails(self, error, fields, call, *told, **named):
        """A call raises just this error, with these fields and their kinds."""
        with self.assertRaises(WebError) as caught:
            call(*told, **named)
        self.assertIs(type(caught.exception), error)
        self.assertEqual(frozen(tuple(vars(caught.exception).values())), frozen(tuple(fields)))

    def same(self, found, wanted):
        """Two values are equal, and of one kind at any depth."""
        self.assertEqual(frozen(found), frozen(wanted))


def random_net(chance, links, joints, names):
    """A net with some links, drawn by a random source of its own seed."""
    drawn = [(chance.choice(names), chance.randrange(joints), chance.randrange(joints)) for _ in range(links)]
    return Web.net(drawn)


def random_web(chance, places, names):
    """A web of at most so many places, with rows, bunches and nets in one another."""
    if places < 2 or chance.random() < 0.15:
        return Web.link(chance.choice(names))
    if chance.random() < 0.3:
        return random_net(chance, chance.randrange(1, places + 1), chance.choice([2, 3, 4, 5]), names)
    first = chance.randrange(1, places)
    parts = [random_web(chance, first, names), random_web(chance, places - first, names)]
    return Web.row(*parts) if chance.random() < 0.5 else Web.bunch(*parts)


def sample_webs(count=120, places=6):
    """Webs of all kinds, the same ones each time."""
    chance = random.Random(11)
    webs = [
        Web.always(), Web.never(), Web.link("a"), Web.bunch("x", "x"), Web.row("x", "x"),
        Web.bunch(Web.row("x", "x"), Web.row("x", "y")), Web.net([("a", 2, 3)]), Web.net([("a", 0, 0)]),
        Web.net([("a", 1, 1), ("b", 0, 1), ("c", 0, 2)]), Web.net([("a", 0, 99), ("b", 99, 1), ("c", 50, 51)]),
        Web.net([("a", 0, 2), ("b", 0, 3), ("m", 3, 2), ("c", 2, 1), ("d", 3, 1)]),
        Web.row("a", Web.net([("b", 0, 3), ("c", 1, 3), ("d", 3, 3)]), Web.bunch("e", Web.net([("f", 2, 3)]))),
    ]
    for at in range(count):
        names = LETTERS[:2 + at % 6]
        webs.append(random_web(chance, chance.randrange(1, places + 1), names))
        webs.append(random_net(chance, chance.randrange(1, places + 1), 2 + at % 4, names))
    return webs


def drawn_values(chance, web, highest=4):
    """Values of the names of a web, some of them by the rest."""
    values = Values({name: Ratio(chance.randrange(highest), chance.choice([1, 1, 2])) for name in web.names})
    if len(values) > 1 and chance.random() < 0.3:
        values = Values({name: values[name] for name in values.names[1:]})
        values.rest = chance.randrange(highest)
    return values


def worths_of(web, values):
    return [Fraction(values[name].top, values[name].bottom) for name, _, _ in web.links]


def plain_walks(web):
    """All walks, found by trying all orders of all places."""
    if web.kind == "open":
        return [()]
    found = []
    for many in range(1, len(web) + 1):
        for places in itertools.permutations(range(len(web)), many):
            joints = [0]
            for place in places:
                _, u, v = web.links[place]
                joints.append(v if joints[-1] == u else u if joints[-1] == v else None)
            if joints[-1] == 1 and None not in joints and len(set(joints)) == len(joints):
                found.append(places)
    return found


def plain_cuts(web):
    """The sets of places of all cuts, found by all sides, as the document tells them."""
    if web.kind == "open":
        return []
    inner = web.joints[2:]
    left = []
    for many in range(len(inner) + 1):
        for chosen in itertools.combinations(inner, many):
            side = (0,) + chosen
            left.append(frozenset(k for k, (_, u, v) in enumerate(web.links) if (u in side) != (v in side)))
    return [tuple(sorted(one)) for one in set(left) if not any(other < one for other in left)]


def counts(web, places):
    """Counts of places, listed in order, each once."""
    found = {tuple(sorted(web.links[place][0] for place in some)) for some in places}
    return sorted(found, key=lambda count: (len(count), count))


def least_sets(found):
    """The least of counts, as tuples of unlike names."""
    sets = {tuple(sorted(set(count))) for count in found}
    least = [one for one in sets if not any(set(other) < set(one) for other in sets)]
    return sorted(least, key=lambda names: (len(names), names))


def all_name_sets(names):
    """All tuples of some of the names."""
    return [some for many in range(len(names) + 1) for some in itertools.combinations(names, many)]
