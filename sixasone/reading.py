"""Reads the texts of webs."""

from sixasone.errors import BadText
from sixasone.names import FIGURES, LETTERS, LONGEST, RESERVED
from sixasone.shapes import OPEN, SHUT, compound, net_shape

# As many as Web.MOST, in a file that is made from this one.
MOST_NAMES = 14


class Reader:
    """Reads one text sign by sign, and stops where no right text goes on like it."""

    def __init__(self, text):
        self.text = text
        self.at = 0

    def sees(self, signs):
        """Whether one of the signs comes next."""
        return self.at < len(self.text) and self.text[self.at] in signs

    def take(self, signs):
        """Goes on behind the next sign, one of those told, and returns it."""
        if not self.sees(signs):
            raise BadText(self.at)
        self.at += 1
        return self.text[self.at - 1]

    def take_all(self, word):
        """Goes on behind all signs of a word, one behind the other."""
        for sign in word:
            self.take(sign)

    def take_end(self):
        """Checks that the text ends here."""
        if self.at < len(self.text):
            raise BadText(self.at)

    def take_name(self):
        """A name."""
        found = self.take(LETTERS)
        while len(found) < LONGEST and self.sees(LETTERS):
            found = found + self.take(LETTERS)
        if found in RESERVED:
            raise BadText(self.at)
        return found


class WebReader(Reader):
    """Reads the text of a web.

    Each bracket wants a second part: `owed` counts the names that the brackets still want behind
    the part that is being read, so that no beginning is taken that wants too many names.
    """

    def __init__(self, text):
        super().__init__(text)
        self.used = 0
        self.owed = 0

    def read_whole(self):
        """The shape of the whole text."""
        if self.text == "open":
            return OPEN
        if self.text == "shut":
            return SHUT
        shape = self.read_part()
        self.take_end()
        return shape

    def has_room(self, names):
        """Whether so many more names may stand here."""
        return self.used + self.owed + names <= MOST_NAMES

    def read_part(self):
        """The shape of a link, a net, a row or a bunch."""
        if self.sees("["):
            return self.read_net()
        if self.sees("(") and self.has_room(2):
            return self.read_bracket()
        return ("link", self.read_name())

    def read_bracket(self):
        """The shape of a row or a bunch."""
        self.take("(")
        self.owed += 1
        parts = [self.read_part()]
        self.owed -= 1
        self.take(" ")
        sign = self.take("&|")
        self.take(" ")
        parts.append(self.read_part())
        while self.sees(" ") and self.has_room(1):
            self.take(" ")
            self.take(sign)
            self.take(" ")
            parts.append(self.read_part())
        self.take(")")
        return compound("row" if sign == "&" else "bunch", parts)

    def read_net(self):
        """The shape of a net."""
        self.take("[")
        links = [self.read_link()]
        while self.sees(" ") and self.has_room(1):
            self.take(" ")
            links.append(self.read_link())
        self.take("]")
        return net_shape(links)

    def read_link(self):
        """One link of a net."""
        near = self.read_joint()
        self.take("-")
        name = self.read_name()
        self.take("-")
        return (name, near, self.read_joint())

    def read_joint(self):
        """The number of a joint."""
        figures = self.take(FIGURES)
        if figures != "0" and self.sees(FIGURES):
            figures = figures + self.take(FIGURES)
        return int(figures)

    def read_name(self):
        """A name, which is counted."""
        found = self.take_name()
        self.used += 1
        return found


def read_shape(text):
    """The shape of the web that a text writes."""
    if not isinstance(text, str):
        raise BadText(0)
    return WebReader(text).read_whole()
