"""Texts of values and of trees of cases."""

from sixasone.errors import BadText
from sixasone.names import FIGURES
from sixasone.ratios import Ratio
from sixasone.reading import Reader
from sixasone.values import Values

DEEPEST = 14


class ValuesReader(Reader):
    """Reads the text of values that tells something."""

    def read_whole(self):
        """The values of the whole text."""
        found = Values()
        self.read_item(found)
        while self.sees(","):
            self.take_all(", ")
            self.read_item(found)
        self.take_end()
        return found

    def read_item(self, values):
        """Tells the value of one item."""
        if self.sees("*"):
            self.take_all("* ")
            values.set_rest(self.read_ratio())
        else:
            name = self.take_name()
            self.take(" ")
            values[name] = self.read_ratio()

    def read_ratio(self):
        """A ratio, not always in lowest terms."""
        top = self.read_number(FIGURES)
        if not self.sees("/"):
            return Ratio(top)
        self.take("/")
        return Ratio(top, self.read_number(FIGURES[1:]))

    def read_number(self, leading):
        """A number that begins with one of some figures."""
        figures = self.take(leading)
        while figures != "0" and self.sees(FIGURES):
            figures = figures + self.take(FIGURES)
        return int(figures)


class TreeReader(Reader):
    """Reads the text of a tree."""

    def read_whole(self):
        """The tree of the whole text."""
        found = self.read_part(0, False)
        self.take_end()
        return found

    def read_part(self, depth, is_first):
        """A question, or a leaf; behind the first tree of a question the second one comes."""
        if not self.sees("(") or depth == DEEPEST:
            return self.read_leaf(is_first)
        self.take("(")
        name = self.take_name()
        self.take_all(" ? ")
        opened = self.read_part(depth + 1, True)
        self.take_all(" : ")
        shut = self.read_part(depth + 1, False)
        self.take(")")
        return ("ask", name, opened, shut)

    def read_leaf(self, is_first):
        """A leaf, with its names as they come."""
        word = "way" if self.sees("w") else "cut"
        self.take_all(word)
        names = ()
        while self.sees(" ") and not (is_first and self.text[self.at:self.at + 2] == " :"):
            self.take(" ")
            names = names + (self.take_name(),)
        return (word, names)


def write_values(values):
    """The text of values."""
    return str(values)


def read_values(text):
    """The values that a text writes."""
    if not isinstance(text, str):
        raise BadText(0)
    return Values() if text == "none" else ValuesReader(text).read_whole()


def write_tree(tree):
    """The text of a tree."""
    if tree[0] == "ask":
        return f"({tree[1]} ? {write_tree(tree[2])} : {write_tree(tree[3])})"
    return " ".join((tree[0],) + tree[1])


def read_tree(text):
    """The tree that a text writes."""
    if not isinstance(text, str):
        raise BadText(0)
    return TreeReader(text).read_whole()
