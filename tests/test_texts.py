"""Points [34] and [35]: texts of values and of trees."""

import random
import re
import unittest

from drawn import T, chain, tree_pairs
from samples import FIGURES_60, Case, frozen, odd_values
from sixasone.errors import BadText
from sixasone.ratios import Ratio
from sixasone.texts import read_tree, read_values, write_tree, write_values
from sixasone.values import Values

WORDS = {"open", "shut", "net"}


class Search:
    """All that a text can begin with, sign by sign: sets of the places behind it, and the farthest place reached."""

    def __init__(self, text):
        self.text, self.far = text, 0

    def sign(self, places, signs):
        found = {place + 1 for place in places if place < len(self.text) and self.text[place] in signs}
        self.far = max([self.far, *found])
        return found

    def word(self, places, word):
        for sign in word:
            places = self.sign(places, sign)
        return places

    def name(self, places):
        found = set()
        for place in places:
            here = {place}
            for _ in range(8):
                here = self.sign(here, "abcdefghijklmnopqrstuvwxyz")
                found |= {end for end in here if self.text[place:end] not in WORDS}
        return found

    def number(self, places, leading="123456789"):
        found = self.sign(places, "0") if leading == "0" else set()
        here = self.sign(places, "123456789")
        while here:
            found |= here
            here = self.sign(here, "0123456789")
        return found

    def ratio(self, places):
        tops = self.number(places, "0")
        return tops | self.number(self.sign(tops, "/"))

    def item(self, places):
        return self.ratio(self.word(places, "* ") | self.sign(self.name(places), " "))

    def values(self):
        whole = self.word({0}, "none") & {len(self.text)}
        here = self.item({0})
        found = set(here)
        while here:
            here = self.item(self.word(here, ", "))
            found |= here
        return len(self.text) in whole | found

    def part(self, places, deep):
        if not places:
            return set()
        found = set()
        here = self.word(places, "way") | self.word(places, "cut")
        while here:
            found |= here
            # What stands behind a name is neither a sign nor a name of more letters.
            here = self.name(self.sign(here, " "))
        if deep < 14:
            first = self.part(self.word(self.name(self.sign(places, "(")), " ? "), deep + 1)
            found |= self.sign(self.part(self.word(first, " : "), deep + 1), ")")
        return found

    def tree(self):
        return len(self.text) in self.part({0}, 0)


def is_right_values(text):
    """Whether a text is right values, by one pattern."""
    number, name = "(?:0|[1-9][0-9]*)", "(?!(?:open|shut|net) )[a-z]{1,8}"
    item = rf"(?:{name}|\*) {number}(?:/[1-9][0-9]*)?"
    return bool(re.fullmatch(f"none|{item}(?:, {item})*", text))


def plain_values(text):
    """The values that a right text tells, item by item."""
    numbers, rest = {}, None
    for item in [] if text == "none" else text.split(", "):
        name, ratio = item.split(" ")
        top, _, bottom = ratio.partition("/")
        number = Ratio(int(top), int(bottom or "1"))
        numbers, rest = (numbers, number) if name == "*" else ({**numbers, name: number}, rest)
    made = Values(numbers)
    made.rest = rest
    return made


def random_text(chance, signs, most):
    return "".join(chance.choice(signs) for _ in range(chance.randrange(most)))


def changed(chance, text, signs):
    """A text with a sign more, less or another one, or without its end."""
    at = chance.randrange(len(text) + 1)
    draw = chance.randrange(4)
    if draw == 0:
        return text[:at] + chance.choice(signs) + text[at:]
    if draw == 1:
        return text[:at] + text[at + 1:]
    return text[:at] if draw == 2 else text[:at] + chance.choice(signs) + text[at + 1:]


def drawn_values_text(chance):
    """A right text of values, in any order, names twice, not in lowest terms."""
    if chance.random() < 0.05:
        return "none"
    names = ["a", "b", "*", "none", "way", "opens", "ne", "abcdefgh"]
    items = []
    for _ in range(chance.randrange(1, 6)):
        top = chance.choice([0, 1, 4, 10, 99, FIGURES_60])
        bottom = chance.choice(["", "", "/1", "/2", "/6", "/10"])
        items.append(f"{chance.choice(names)} {top}{bottom}")
    return ", ".join(items)


def drawn_tree_text(chance, deep=0):
    """A right text of a tree, which need not be a tree."""
    names = ["a", "b", "c", "way", "cut", "opens", "abcdefgh"]
    if deep == 4 or chance.random() < 0.3:
        return " ".join([chance.choice(["way", "cut"])] + [chance.choice(names) for _ in range(chance.randrange(4))])
    return f"({chance.choice(names)} ? {drawn_tree_text(chance, deep + 1)} : {drawn_tree_text(chance, deep + 1)})"


def nested(deep, at_first=True):
    """The text of a tree so many questions deep."""
    text = "way"
    for _ in range(deep):
        text = f"(a ? {text} : cut)" if at_first else f"(a ? cut : {text})"
    return text


class ReaderCase(Case):
    def check_wrong(self, read, search, text):
        """The text is read exactly if a search finds it right, and otherwise told how far it could be."""
        looked = Search(text)
        if search(looked):
            read(text)
            return True
        self.fails(BadText, [looked.far], read, text)
        return False


class ValuesTest(ReaderCase):
    def test_told_examples(self):
        self.same(write_values(read_values("b 6/4, * 1, a 0")), "a 0, b 3/2, * 1")
        for text, at in (("a 1/0", 4), ("a 2/4, b 03", 10), ("none, a 1", 4)):
            self.fails(BadText, [at], read_values, text)

    def test_there_and_back(self):
        chance = random.Random(141)
        for _ in range(200):
            text = drawn_values_text(chance)
            self.same(is_right_values(text), True)
            found = read_values(text=text)
            self.assertTrue(found == plain_values(text), text)
            written = write_values(values=found)
            self.same([written, str(found)], [str(plain_values(text)), written])
            self.assertTrue(read_values(written) == found)
            self.same(write_values(read_values(written)), written)

    def test_written(self):
        values = Values({"b": Ratio(4, 6), "a": 7, "none": 0})
        self.same(write_values(values), "a 7, b 2/3, none 0")
        values.rest = Ratio(0)
        told = frozen(values)
        self.same([write_values(values), frozen(values)], ["a 7, b 2/3, none 0, * 0", told])
        values = Values()
        self.same([write_values(values), read_values("none") == values], ["none", True])
        values.rest = Ratio(FIGURES_60, 2)
        self.same(write_values(values), f"* {FIGURES_60}/2")

    def test_the_last_one_counts(self):
        self.same([str(read_values(text)) for text in
                   ("a 1, a 2", "* 1, a 3, * 2/4", "a 1, b 2, a 3/3, b 0", "none 3", "* 0, * 7", "way 1, cut 2, none 3")],
                  ["a 2", "a 3, * 1/2", "a 1, b 0", "none 3", "* 7", "cut 2, none 3, way 1"])

    def test_wrong_texts(self):
        for text, at in (("", 0), ("n", 1), ("non", 3), ("none ", 5), ("nonex", 5), ("a", 1), ("a ", 2), ("a  1", 2), ("a 1,", 4),
                         ("a 1, ", 5), ("a 1,b 2", 4), ("a 1 ", 3), ("a 1/", 4), ("a 1/00", 4), ("a 1/2/3", 5), ("a 00", 3),
                         ("a -1", 2), ("a endless", 2), ("a 1.5", 3), ("open 1", 4), ("open", 4), ("shut", 4), ("net 1", 3),
                         ("opena 1/", 8), ("a 1, net 2", 8), ("abcdefghi 1", 8), ("*", 1), ("* ", 2), ("*1", 1), ("** 1", 1),
                         ("* 1, ", 5), ("A 1", 0), (" a 1", 0), ("a\n1", 1), ("a 1\n", 3), ("a 1, none", 9), ("none, ", 4),
                         ("a 1 , b 2", 3), ("1", 0), (",", 0), ("a 0/2", None), ("a 10/20", None), ("a 0, b 0/1", None)):
            if at is None:
                self.same(is_right_values(text), True)
                read_values(text)
            else:
                self.fails(BadText, [at], read_values, text)
            self.same(self.check_wrong(read_values, Search.values, text), at is None)

    def test_drawn_wrong_texts(self):
        chance = random.Random(142)
        signs = "ab*0123/, noe"
        right = 0
        for at in range(6000):
            text = random_text(chance, signs, 7) if at % 3 == 0 else changed(chance, drawn_values_text(chance), signs)
            is_right = self.check_wrong(read_values, Search.values, text)
            self.same(is_right, is_right_values(text))
            right += is_right
        self.assertTrue(right > 300, right)

    def test_each_beginning(self):
        chance = random.Random(143)
        for _ in range(60):
            text = drawn_values_text(chance)
            for at in range(len(text)):
                if not is_right_values(text[:at]):
                    self.fails(BadText, [at], read_values, text[:at])

    def test_no_texts(self):
        for odd in odd_values():
            if not isinstance(odd, str):
                self.fails(BadText, [0], read_values, odd)
                self.fails(BadText, [0], read_tree, odd)

    def test_many_figures(self):
        text = f"a {'9' * 1900}, b 1/{'9' * 60}"
        self.same(write_values(read_values(text)), text)


class TreeTest(ReaderCase):
    def test_told_example(self):
        self.same(read_tree("(a ? way a : cut a c)"), ("ask", "a", ("way", ("a",)), ("cut", ("a", "c"))))

    def test_there_and_back(self):
        trees = [T, ("way", ()), ("cut", ()), chain("abcdefghijklmn", ("way", tuple("abcdefghijklmn")))]
        trees += [tree for _, _, tree in tree_pairs(80)]
        for tree in trees:
            told = frozen(tree)
            text = write_tree(tree=tree)
            self.same([read_tree(text=text), frozen(tree)], [tree, told])
        self.same([write_tree(T), write_tree(("way", ())), write_tree(("cut", ("a", "c")))],
                  ["(a ? (b ? way b : (c ? way a c : cut b c)) : cut a)", "way", "cut a c"])

    def test_what_is_read_need_not_be_a_tree(self):
        chance = random.Random(144)
        for _ in range(300):
            text = drawn_tree_text(chance)
            self.same(write_tree(read_tree(text)), text)
        self.same([read_tree("way b a b"), read_tree("(a ? cut : (a ? way z : way))"), read_tree("cut way cut")],
                  [("way", ("b", "a", "b")), ("ask", "a", ("cut", ()), ("ask", "a", ("way", ("z",)), ("way", ()))),
                   ("cut", ("way", "cut"))])

    def test_fourteen_and_fifteen_deep(self):
        for at_first in (True, False):
            text, more = nested(14, at_first), nested(15, at_first)
            self.same(write_tree(read_tree(text)), text)
            at = more.index("(a ? way") if at_first else more.rindex("(")
            self.fails(BadText, [at], read_tree, more)
            self.same(self.check_wrong(read_tree, Search.tree, more), False)
        self.fails(BadText, [14 * 5 + 2], read_tree, "(a ? " * 14 + "wa")
        self.fails(BadText, [14 * 5], read_tree, "(a ? " * 14 + "(")

    def test_wrong_texts(self):
        for text, at in (("", 0), ("w", 1), ("wa", 2), ("wax", 2), ("wayx", 3), ("way ", 4), ("way  a", 4), ("way a ", 6),
                         ("way A", 4), ("way open", 8), ("way opena b", None), ("way net a", 7), ("cut shut)", 8), ("way a)", 5),
                         ("way : cut", 4), ("way)", 3), ("c", 1), ("cu", 2), ("ask", 0), ("a", 0), ("(", 1), ("()", 1), ("(a", 2),
                         ("(a ", 3), ("(a?", 2), ("(a ?", 4), ("(a ? ", 5), ("(a ? way", 8), ("(a ? way ", 9), ("(a ? way :", 10),
                         ("(a ? way: cut)", 8), ("(a ? way : ", 11), ("(a ? way : cut", 14), ("(a ? way : cut ", 15),
                         ("(a ? way : cut : cut)", 15), ("(a ? way : cut )", 15), ("(a ? way a : cut)", None), ("(a ? way) : cut)", 8),
                         ("(a ? way : cut))", 15), ("(a ? way : cut) ", 15), ("(open ? way : cut)", 5), ("(opens ? way : cut)", None),
                         ("(abcdefghi ? way : cut)", 9), ("(a  ? way : cut)", 3), ("(a ? (b ? way : cut) : cut", 26),
                         ("(a ? (b ? way : cut :", 20), ("(a ? way  : cut)", 9), ("(a ? way :  cut)", 11), (" way", 0), ("WAY", 0),
                         ("(a ? way : cut a)b", 17), ("way a\n", 5), ("way,a", 3), ("(way ? way way : cut cut)", None)):
            if at is None:
                self.same(write_tree(read_tree(text)), text)
            else:
                self.fails(BadText, [at], read_tree, text)
            self.same(self.check_wrong(read_tree, Search.tree, text), at is None)

    def test_drawn_wrong_texts(self):
        chance = random.Random(145)
        right = 0
        for at in range(5000):
            text = changed(chance, drawn_tree_text(chance), "ab(): ?wcyut ")
            if at % 3 == 0:
                text = changed(chance, text, "ab(): ?wcyut ")
            right += self.check_wrong(read_tree, Search.tree, text)
        for _ in range(1500):
            self.check_wrong(read_tree, Search.tree, random_text(chance, ["(", "a ", "? ", "way", "cut", " ", ": ", ")", "net"], 9))
        self.assertTrue(right > 300, right)

    def test_each_beginning(self):
        chance = random.Random(146)
        for _ in range(60):
            text = drawn_tree_text(chance)
            for at in range(len(text)):
                if not Search(text[:at]).tree():
                    self.fails(BadText, [at], read_tree, text[:at])


if __name__ == "__main__":
    unittest.main()
