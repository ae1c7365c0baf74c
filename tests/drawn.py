"""Pairs of webs and trees that several tests draw, the same ones each time."""

import random

from plain import plain_joins, plain_rows
from samples import LETTERS, all_name_sets, counts, least_sets, odd_values, plain_cuts, plain_walks, random_net
from samples import random_web, spoilt
from sixasone.cases import tree_of
from sixasone.webs import Web

T = ("ask", "a", ("ask", "b", ("way", ("b",)), ("ask", "c", ("way", ("a", "c")), ("cut", ("b", "c")))), ("cut", ("a",)))
LOW, HIGH = Web.row("a", Web.bunch("b", "c")), Web.bunch("b", Web.row("a", "c"))


def chain(names, last=("way", ())):
    """A tree that asks names one after another; each name that is shut leads to a cut leaf."""
    tree = last
    for name in reversed(names):
        tree = ("ask", name, tree, ("cut", (name,)))
    return tree


def web_pairs(count=150, places=5, seed=41):
    """Pairs of webs with the same few names, some of them open or shut."""
    chance = random.Random(seed)
    pairs = [(one, other) for one in (Web.always(), Web.never(), Web.link("a"), Web.net([("a", 2, 3)]))
             for other in (Web.always(), Web.never(), Web.link("a"), Web.link("b"), Web.net([("b", 4, 5)]))]
    pairs += [(LOW, HIGH), (HIGH, LOW)]
    for at in range(count):
        names = LETTERS[:2 + at % 4]
        draw = random_web if at % 3 else lambda chance, many, names: random_net(chance, many, 4, names)
        pairs.append((draw(chance, chance.randrange(1, places + 1), names),
                      draw(chance, chance.randrange(1, places + 1), names)))
    return pairs


def plain_pair(chance, most=6):
    """Two webs with the same names, each of which stands once."""
    names = list(LETTERS[:chance.randrange(1, most + 1)])
    return [plain_web(chance, chance.sample(names, len(names))) for _ in range(2)]


def plain_web(chance, names):
    """A web in which each of the names stands once."""
    if len(names) == 1:
        return Web.link(names[0])
    if chance.random() < 0.35:
        return Web.net([(name, chance.randrange(4), chance.randrange(4)) for name in names])
    at = chance.randrange(1, len(names))
    parts = plain_web(chance, names[:at]), plain_web(chance, names[at:])
    return Web.row(*parts) if chance.random() < 0.5 else Web.bunch(*parts)


def never_worse(one, other):
    """Whether one is never joined without other, by all sets of names."""
    names = sorted(set(one.names + other.names))
    return all(plain_joins(other, some) for some in all_name_sets(names) if plain_joins(one, some))


def plain_apart(one, other):
    """The way and the cut that compare tells, by all walks and all sides."""
    ways = least_sets(counts(one, plain_walks(one)))
    way = [each for each in ways if not plain_joins(other, each)][0]
    cuts = counts(other, plain_cuts(other))
    return way, tuple(sorted(set([each for each in cuts if not set(each) & set(way)][0])))


def tree_pairs(count=150, places=5, seed=41):
    """Triples of two webs and a tree for them."""
    found = [(one, other, tree_of(one, other)) for one, other in web_pairs(count, places, seed)]
    return [row for row in found if row[2] is not None]


def no_trees():
    """Any values that are no trees."""
    leaf, more = ("way", ()), ("cut", ())
    found = odd_values() + spoilt(T)
    found += [
        ("ask", "a", leaf), ("ask", "a", leaf, more, leaf), ("ask", leaf, more), ["ask", "a", leaf, more],
        ("ask", "open", leaf, more), ("ask", "A", leaf, more), ("ask", "abcdefghi", leaf, more), ("ask", "", leaf, more),
        ("ask", 1, leaf, more), ("ask", None, leaf, more), ("ask", ("a",), leaf, more), ("ask", "a b", leaf, more),
        ("asks", "a", leaf, more), ("way", "a", leaf, more), ("ask", "a", leaf, None), ("ask", "a", None, more),
        ("ask", "a", ("way", ("b",)), more), ("ask", "a", ("cut", ("a",)), more), ("ask", "a", leaf, ("way", ("a",))),
        ("ask", "a", leaf, ("cut", ("b",))), ("ask", "a", ("way", ("a", "a")), more), ("ask", "a", ("way", ["a"]), more),
        ("ask", "a", ("way", "a"), more), ("ask", "a", ("ask", "a", leaf, more), more),
        ("ask", "a", leaf, ("ask", "a", leaf, more)), ("ask", "b", ("ask", "a", ("way", ("b", "a")), more), more),
        ("ask", "a", leaf, ("ask", "b", ("ask", "a", leaf, more), more)), ("way",), ("way", None), ("way", (), ()),
        ("open", ()), ("cut", ("a",)), ("way", ("a",)), ("way", (1,)), ("way", ((),)), ("way", (None, "a")),
        chain("abcdefghijklmno"), chain("abcdefghijklmno", more), chain("abcdefghijklmna"),
    ]
    return [thing for thing in found if plain_rows(thing) is None]
