"""Exact fractions, and endless."""

from math import gcd, lcm

from sixasone.errors import BadRatio, BadText, NoRatio
from sixasone.names import FIGURES, is_int


def figures_end(text, start):
    """The index behind the figures from start on; a zero ahead stands alone."""
    if text[start:start + 1] == "0":
        return start + 1
    end = start
    while end < len(text) and text[end] in FIGURES:
        end += 1
    return end


def shared_length(text, word):
    """How many characters two strings have in common at their beginnings."""
    at = 0
    while at < len(text) and at < len(word) and text[at] == word[at]:
        at += 1
    return at


def live_length(text):
    """The length of the longest beginning with which the text of a ratio begins."""
    if text[:1] == "e":
        return shared_length(text, "endless")
    start = 1 if text[:1] == "-" else 0
    end = figures_end(text, start)
    if end == start or (start == 1 and text[1] == "0"):
        return start
    if text[end:end + 1] != "/":
        return end
    behind = end + 1
    if text[behind:behind + 1] == "0":
        return behind
    return figures_end(text, behind)


def ratios_of(items):
    """The list of the ratios that items stand for."""
    for at, item in enumerate(items):
        if not is_int(item) and not isinstance(item, Ratio):
            raise BadRatio(at)
    return [Ratio.of(item) for item in items]


def common_bottom(ratios):
    """The least whole number that brings ratios, none of them endless, to one bottom."""
    bottom = 1
    for each in ratios:
        bottom = lcm(bottom, each.bottom)
    return bottom


class Ratio:
    """An exact fraction in lowest terms, or endless: the top 1 over the bottom 0."""

    def __init__(self, top, bottom=1):
        if not is_int(top):
            raise BadRatio(0)
        if not is_int(bottom) or bottom < 1:
            raise BadRatio(1)
        shared = gcd(top, bottom)
        self.top = top // shared
        self.bottom = bottom // shared

    @staticmethod
    def endless():
        """The ratio that is greater than every other one."""
        made = Ratio(1)
        made.bottom = 0
        return made

    @staticmethod
    def of(thing):
        """The ratio of a whole number; a ratio as it is."""
        if isinstance(thing, Ratio):
            return thing
        return Ratio(thing)

    @staticmethod
    def total(items):
        """The sum of ratios and whole numbers; 0 of none."""
        ratios = ratios_of(items)
        # A part of the sum may be above 0 where one item is below it.
        if any([item.is_endless for item in ratios]) and any([item < 0 for item in ratios]):
            raise NoRatio()
        found = Ratio(0)
        for item in ratios:
            found = found + item
        return found

    @staticmethod
    def greatest(items):
        """The greatest of ratios and whole numbers; 0 of none."""
        ratios = ratios_of(items)
        if not ratios:
            return Ratio(0)
        found = ratios[0]
        for item in ratios:
            if item > found:
                found = item
        return found

    @staticmethod
    def least(items):
        """The least of ratios and whole numbers; endless of none."""
        found = Ratio.endless()
        for item in ratios_of(items):
            if item < found:
                found = item
        return found

    @classmethod
    def read(cls, text):
        """The ratio that a text writes."""
        if not isinstance(text, str):
            raise BadText(0)
        if text == "endless":
            return Ratio.endless()
        end = live_length(text)
        if end < len(text) or text == "" or text[-1] not in FIGURES:
            raise BadText(end)
        top, _, bottom = text.partition("/")
        return cls(int(top), int(bottom or "1"))

    @property
    def is_endless(self):
        """Whether this is endless."""
        return self.bottom == 0

    @property
    def is_whole(self):
        """Whether the bottom is 1."""
        return self.bottom == 1

    def over(self, y):
        """The quotient by a ratio or a whole number."""
        y = Ratio.of(y)
        if not y or (self.is_endless and (y.is_endless or y < 0)):
            raise NoRatio()
        if self.is_endless:
            return self
        if y.is_endless:
            return Ratio(0)
        if y.top < 0:
            return Ratio(-self.top * y.bottom, -y.top * self.bottom)
        return Ratio(self.top * y.bottom, y.top * self.bottom)

    def __add__(self, other):
        other = Ratio.of(other)
        if self.is_endless or other.is_endless:
            if self < 0 or other < 0:
                raise NoRatio()
            return self if self.is_endless else other
        return Ratio(self.top * other.bottom + other.top * self.bottom, self.bottom * other.bottom)

    def __radd__(self, other):
        return self + other

    def __sub__(self, other):
        other = Ratio.of(other)
        if self.is_endless or other.is_endless:
            raise NoRatio()
        return Ratio(self.top * other.bottom - other.top * self.bottom, self.bottom * other.bottom)

    def __rsub__(self, other):
        return Ratio.of(other) - self

    def __mul__(self, other):
        other = Ratio.of(other)
        if self.is_endless or other.is_endless:
            if self <= 0 or other <= 0:
                raise NoRatio()
            return self if self.is_endless else other
        return Ratio(self.top * other.top, self.bottom * other.bottom)

    def __rmul__(self, other):
        return self * other

    def __floordiv__(self, other):
        other = Ratio.of(other)
        if self.is_endless or other.is_endless or not other:
            raise NoRatio()
        return (self.top * other.bottom) // (self.bottom * other.top)

    def __rfloordiv__(self, other):
        return Ratio.of(other) // self

    def __mod__(self, other):
        return self - (self // other) * Ratio.of(other)

    def __rmod__(self, other):
        return Ratio.of(other) - (other // self) * self

    def __neg__(self):
        if self.is_endless:
            raise NoRatio()
        return Ratio(-self.top, self.bottom)

    def __abs__(self):
        return -self if self < 0 else self

    def __bool__(self):
        return bool(self.top)

    # Both bottoms are from 0 on, and 0 for endless alone: products across compare all of them.
    def __lt__(self, other):
        other = Ratio.of(other)
        return self.top * other.bottom < other.top * self.bottom

    def __le__(self, other):
        other = Ratio.of(other)
        return self.top * other.bottom <= other.top * self.bottom

    def __gt__(self, other):
        other = Ratio.of(other)
        return self.top * other.bottom > other.top * self.bottom

    def __ge__(self, other):
        other = Ratio.of(other)
        return self.top * other.bottom >= other.top * self.bottom

    def __eq__(self, other):
        return isinstance(other, Ratio) and self.top == other.top and self.bottom == other.bottom

    def __str__(self):
        if self.bottom == 0:
            return "endless"
        if self.bottom == 1:
            return str(self.top)
        return f"{self.top}/{self.bottom}"

    def __repr__(self):
        return f"Ratio({self})"
