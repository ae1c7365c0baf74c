"""Values that part two webs, by each of the measures."""

from sixasone.named import WORDS, measure
from sixasone.orders import compare
from sixasone.values import Values


def parting(asked, one, other, way):
    """What a measure tells of two webs at good values on a way and bad ones elsewhere."""
    values = Values.two(way, asked.good, asked.bad)
    return (asked.word, values, asked(one, values), asked(other, values))


def partings(one, other, way):
    """The tuples (word, values, number of one, number of other) of all measures."""
    return [parting(measure(word), one, other, way) for word in WORDS]


def parted(asked, one, other):
    """The tuple of a measure for the way by which one is not never worse, or None."""
    verdict = compare(one, other)
    return None if verdict else parting(asked, one, other, verdict.way)
