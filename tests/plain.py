"""Plain searches for what the six measures tell, and plain checks of their papers.

They try all that there is, word by word as the document tells it, and share nothing with the package but webs and ratios.
"""

import itertools
from fractions import Fraction

from samples import Case, FIGURES_60, frozen, odd_values, plain_walks, spoilt, worths_of
from sixasone.errors import NoValue
from sixasone.ratios import Ratio
from sixasone.values import Values
from sixasone.webs import Web

ENDLESS = Ratio.endless()
ALPHABET = set("abcdefghijklmnopqrstuvwxyz")
OPEN_NUMBERS = {"joined": Ratio(1), "length": Ratio(0), "width": ENDLESS, "flow": ENDLESS, "chance": Ratio(1),
                "ease": ENDLESS}


def ratio(number):
    return Ratio(number.numerator, number.denominator)


def plain_is_stream(web, thing):
    if not isinstance(thing, tuple) or len(thing) != len(web.links):
        return False
    if any(not isinstance(part, Ratio) or part.is_endless for part in thing):
        return False
    left = {joint: Ratio(0) for joint in web.joints}
    for (_, u, v), part in zip(web.links, thing):
        left[u] -= part
        left[v] += part
    return all(left[joint] == Ratio(0) for joint in web.joints if joint > 1)


def along(web, walk):
    """The pairs of a place and the sign of its stream, if a walk is gone from joint 0."""
    joint, pairs = 0, []
    for place in walk:
        _, u, v = web.links[place]
        pairs.append((place, 1 if joint == u else -1))
        joint = v if joint == u else u
    return pairs


def rings(web):
    """Streams of amount 0: the one walk less the other one, and loops."""
    walks = plain_walks(web)
    found = []
    for walk in walks[1:]:
        parts = [0] * len(web)
        for some, sign in ((walks[0], 1), (walk, -1)):
            for place, way in along(web, some):
                parts[place] += sign * way
        found.append(parts)
    return found + [[int(at == place) for at in range(len(web))]
                    for place, (_, u, v) in enumerate(web.links) if u == v]


def drawn_streams(chance, web, count=6):
    """Streams that are sums of walks and rings."""
    walks = plain_walks(web)
    found = [tuple(Ratio(0) for _ in web.links)]
    for _ in range(count):
        parts = [Ratio(0)] * len(web)
        for walk in chance.sample(walks, min(len(walks), 3)):
            many = Ratio(chance.randrange(-3, 5), chance.choice([1, 2, 3]))
            for place, way in along(web, walk):
                parts[place] += way * many
        for ring in chance.sample(rings(web), min(len(rings(web)), 2)):
            many = chance.randrange(-2, 3)
            parts = [part + many * one for part, one in zip(parts, ring)]
        found.append(tuple(parts))
    return found


def components(joints, links):
    """A dict from each joint to one joint of its piece."""
    piece = {joint: joint for joint in joints}
    for _, u, v in links:
        low, high = sorted((piece[u], piece[v]))
        piece = {joint: low if piece[joint] == high else piece[joint] for joint in joints}
    return piece


def plain_joins(web, names):
    """Whether names join a web, by the pieces of what they leave open."""
    if web.kind == "open":
        return True
    piece = components(web.joints, [link for link in web.links if link[0] in names])
    return piece[0] == piece[1]


def sides(web):
    """The sets of joints with 0 and without 1."""
    inner = web.joints[2:]
    return [(0,) + some for many in range(len(inner) + 1) for some in itertools.combinations(inner, many)]


def leaving_places(web, side):
    return tuple(k for k, (_, u, v) in enumerate(web.links) if (u in side) != (v in side))


def plain_flow(web, worths):
    """The least sum over all sides."""
    return min(sum(worths[place] for place in leaving_places(web, side)) for side in sides(web))


def forests(web, worths, many):
    """All sets of so many places with values above 0 that have no ring, with their pieces and their product."""
    live = [place for place, worth in enumerate(worths) if worth > 0]
    for some in itertools.combinations(live, many):
        piece, product, is_forest = {joint: joint for joint in web.joints}, Fraction(1), True
        for place in some:
            _, u, v = web.links[place]
            is_forest = is_forest and piece[u] != piece[v]
            low, high = piece[u], piece[v]
            piece = {joint: low if piece[joint] == high else piece[joint] for joint in piece}
            product *= worths[place]
        if is_forest:
            yield piece, product


def plain_ease(web, worths):
    """The sum over the trees that join all joints, over that of the pairs of trees with one end each."""
    live = [link for link, worth in zip(web.links, worths) if worth > 0]
    piece = components(web.joints, live)
    if piece[0] != piece[1]:
        return Fraction(0)
    near = [joint for joint in web.joints if piece[joint] == piece[0]]
    inside = [worth if web.links[place][1] in near else Fraction(0) for place, worth in enumerate(worths)]
    whole = sum(product for _, product in forests(web, inside, len(near) - 1))
    parted = sum(product for piece, product in forests(web, inside, len(near) - 2) if piece[0] != piece[1])
    return Fraction(whole) / parted


def plain_chance(web, values):
    """The sum over all sets of open names."""
    chance = {name: Fraction(values[name].top, values[name].bottom) for name in web.names}
    found = Fraction(0)
    for answers in itertools.product((True, False), repeat=len(chance)):
        is_open = dict(zip(chance, answers))
        if plain_joins(web, [name for name in chance if is_open[name]]):
            product = Fraction(1)
            for name in chance:
                product *= chance[name] if is_open[name] else 1 - chance[name]
            found += product
    return found


def plain_number(word, web, values):
    """What the measure with a word tells."""
    if web.kind == "open":
        return OPEN_NUMBERS[word]
    if word == "chance":
        return ratio(plain_chance(web, values))
    worths = worths_of(web, values)
    if word in ("flow", "ease"):
        return ratio(Fraction(plain_flow(web, worths) if word == "flow" else plain_ease(web, worths)))
    walks = plain_walks(web)
    if word == "joined":
        return Ratio(int(any(all(worths[place] > 0 for place in walk) for walk in walks)))
    if word == "length":
        return ratio(min(sum(worths[place] for place in walk) for walk in walks)) if walks else ENDLESS
    return ratio(max([min(worths[place] for place in walk) for walk in walks], default=Fraction(0)))


def plain_rows(thing, opened=(), shut=()):
    """The rows (opened, shut, leaf) of a tree, or None if any value is no tree, by point [17]."""
    if type(thing) is not tuple:
        return None
    if len(thing) == 2 and type(thing[0]) is str and thing[0] in ("way", "cut"):
        answered = opened if thing[0] == "way" else shut
        is_right = type(thing[1]) is tuple and all(type(name) is str and name in answered for name in thing[1])
        return [(opened, shut, thing)] if is_right and list(thing[1]) == sorted(set(thing[1])) else None
    if len(thing) != 4 or type(thing[0]) is not str or thing[0] != "ask" or type(thing[1]) is not str:
        return None
    name = thing[1]
    if not 1 <= len(name) <= 8 or set(name) - ALPHABET or name in ("open", "shut", "net"):
        return None
    if name in opened + shut or len(opened + shut) == 14:
        return None
    first = plain_rows(thing[2], opened + (name,), shut)
    second = plain_rows(thing[3], opened, shut + (name,))
    return None if first is None or second is None else first + second


def plain_is_tree(one, other, thing):
    """Whether any value is a tree for two webs, by point [18]."""
    rows = plain_rows(thing)
    if rows is None:
        return False
    for _, _, (word, names) in rows:
        if word == "way" and not plain_joins(other, names):
            return False
        if word == "cut" and plain_joins(one, set(one.names) - set(names)):
            return False
    return True


def plain_mass(thing, values):
    """The mass, by the products along the roads."""
    found = Fraction(0)
    for opened, shut, leaf in plain_rows(thing):
        product = Fraction(leaf[0] == "way")
        for name in opened + shut:
            chance = Fraction(values[name].top, values[name].bottom)
            product *= chance if name in opened else 1 - chance
        found += product
    return ratio(found)


def is_plain_walk(web, thing):
    return type(thing) is tuple and all(type(place) is int for place in thing) and thing in plain_walks(web)


def is_plain_shut(web, thing):
    """Whether any value is shut places, by what is left without them."""
    if web.kind == "open" or type(thing) is not tuple or not all(type(place) is int for place in thing):
        return False
    if not all(0 <= place < len(web) for place in thing) or list(thing) != sorted(set(thing)):
        return False
    piece = components(web.joints, [link for place, link in enumerate(web.links) if place not in thing])
    return piece[0] != piece[1]


def are_plain_finite(thing, many):
    return type(thing) is tuple and len(thing) == many and \
        all(type(part) is Ratio and not part.is_endless for part in thing)


def shows_stream(word, web, worths, number, paper):
    """Whether a paper shows a flow or an ease."""
    _, streams, shown = paper
    if not plain_is_stream(web, streams):
        return False
    parts = [Fraction(part.top, part.bottom) for part in streams]
    amount = sum(part * ((u == 0) - (v == 0)) for (_, u, v), part in zip(web.links, parts))
    if ratio(Fraction(amount)) != number:
        return False
    if word == "flow":
        fits = all(abs(part) <= worth for part, worth in zip(parts, worths))
        return fits and is_plain_shut(web, shown) and sum(worths[place] for place in shown) == amount
    if not are_plain_finite(shown, len(web.joints)):
        return False
    height = {joint: Fraction(level.top, level.bottom) for joint, level in zip(web.joints, shown)}
    return height[0] == 1 and height[1] == 0 and all(
        part == worth * (height[u] - height[v]) for (_, u, v), part, worth in zip(web.links, parts, worths))


def shows_walk(word, web, worths, number, paper):
    """Whether a paper of three parts shows a length or a width."""
    _, walk, shown = paper
    if not is_plain_walk(web, walk):
        return False
    if word == "width":
        low = [ratio(worths[place]) for place in shown] if is_plain_shut(web, shown) else [ENDLESS]
        return ratio(min(worths[place] for place in walk)) == number and all(part <= number for part in low)
    if ratio(Fraction(sum(worths[place] for place in walk))) != number or not are_plain_finite(shown, len(web.joints)):
        return False
    level = {joint: Fraction(one.top, one.bottom) for joint, one in zip(web.joints, shown)}
    return level[0] == 0 and ratio(level[1]) == number and all(
        abs(level[u] - level[v]) <= worth for (_, u, v), worth in zip(web.links, worths))


def plain_shows(word, web, values, number, paper):
    """Whether any values are a number and a paper that shows it, by point [16]."""
    if type(number) is not Ratio or type(paper) is not tuple or not paper or type(paper[0]) is not str:
        return False
    if word == "chance":
        return len(paper) == 2 and paper[0] == "cases" and plain_is_tree(web, web, paper[1]) and \
            {name for opened, shut, _ in plain_rows(paper[1]) for name in opened + shut} <= set(web.names) and \
            plain_mass(paper[1], values) == number
    if web.kind == "open":
        return paper == ("open",) and number == OPEN_NUMBERS[word]
    worths = worths_of(web, values)
    if word in ("flow", "ease"):
        return len(paper) == 3 and paper[0] == "stream" and shows_stream(word, web, worths, number, paper)
    if word == "joined":
        if len(paper) != 2:
            return False
        if paper[0] == "way":
            return number == Ratio(1) and is_plain_walk(web, paper[1]) and all(worths[place] > 0 for place in paper[1])
        return paper[0] == "cut" and number == Ratio(0) and is_plain_shut(web, paper[1]) and \
            all(worths[place] == 0 for place in paper[1])
    if not plain_walks(web):
        return number == (Ratio(0) if word == "width" else ENDLESS) and paper[0] == "cut" and \
            len(paper) == 2 and type(paper[1]) is tuple and paper[1] == ()
    return len(paper) == 3 and paper[0] == "way" and shows_walk(word, web, worths, number, paper)


def drawn_chances(chance, web):
    """Values from 0 to 1 of the names of a web, some of them by the rest."""
    values = Values({name: Ratio(chance.choice([0, 1, 1, 2, 3]), 3) for name in web.names})
    if len(values) > 1 and chance.random() < 0.3:
        values = Values({name: values[name] for name in values.names[1:]})
        values.rest = Ratio(chance.randrange(3), 2)
    return values


class MeasureCase(Case):
    """A test case that can check what a measure tells, and its papers."""

    def check_number(self, ask, web, values):
        """The number is that of a plain search; nothing that is passed changes."""
        told, links = frozen(values), web.links
        self.same(ask(web, values), plain_number(ask.word, web, values))
        self.same(ask(web=web, values=values), plain_number(ask.word, web, values))
        self.same([frozen(values), web.links], [told, links])

    def check_paper(self, ask, web, values):
        """The paper shows the number, and no other one."""
        number, paper = ask(web, values), ask.paper_of(web, values)
        self.same(ask.paper_of(web=web, values=values), paper)
        self.same([ask.shows(web, values, number, paper), plain_shows(ask.word, web, values, number, paper)], [True, True])
        others = [Ratio(0), Ratio(1), ENDLESS, Ratio(-1), Ratio(7, 2)]
        if not number.is_endless:
            others += [number + 1, number - Ratio(1, 2)]
        for other in others:
            self.same(ask.shows(web=web, values=values, number=other, paper=paper), other == number)
        for odd in odd_values() + [number.top, str(number), (number,), number == Ratio(1)]:
            if not isinstance(odd, Ratio):
                self.same(ask.shows(web, values, odd, paper), False)
        return paper

    def check_spoilt(self, ask, web, values, paper):
        """What is a paper with one part changed shows only what it shows word by word."""
        number = ask(web, values)
        for other in spoilt(paper) + odd_values():
            self.same([ask.shows(web, values, number, other), other],
                      [plain_shows(ask.word, web, values, number, other), other])

    def check_missing(self, ask):
        """The least name without a value is told, ahead of all else."""
        net = Web.net([("a", 0, 1), ("i", 5, 5), ("z", 5, 6)])
        calls = [ask, ask.paper_of] + [getattr(ask, name) for name in ("walk_in", "shut_in") if hasattr(ask, name)]
        for call in calls:
            self.fails(NoValue, ["i"], call, net, Values({"a": 1}))
            self.fails(NoValue, ["a"], call, net, Values({"zz": 1}))
            self.fails(NoValue, ["a"], call, net, Values())
            self.fails(NoValue, ["z"], call, web=net, values=Values({"i": 7, "a": FIGURES_60, "b": 1}))
        for odd in odd_values():
            self.fails(NoValue, ["i"], ask.shows, net, Values({"a": 1}), odd, odd)
            self.fails(NoValue, ["z"], ask.shows, net, Values({"a": 1, "i": 2}), odd, odd)
