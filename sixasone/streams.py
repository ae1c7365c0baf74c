"""Streams of a web."""

from sixasone.errors import BadStream
from sixasone.places import are_finite, values_at
from sixasone.ratios import Ratio
from sixasone.walks import walks_of


def leaves_joint(web, streams, joint):
    """What goes out of a joint, less what comes in there."""
    going = [part for (_, u, v), part in zip(web.links, streams) if u == joint and v != joint]
    coming = [part for (_, u, v), part in zip(web.links, streams) if v == joint and u != joint]
    return Ratio.total(going) - Ratio.total(coming)


def is_stream(web, thing):
    """Whether any value is a stream of the web."""
    if not are_finite(thing, len(web)):
        return False
    return all([leaves_joint(web, thing, joint) == Ratio(0) for joint in web.joints[2:]])


def amount(web, streams):
    """What goes out of joint 0, less what comes in there."""
    if not is_stream(web, streams):
        raise BadStream()
    return leaves_joint(web, streams, 0)


def steps_of(web, walk):
    """The pairs (place, 1) of a walk, or (place, -1) where it goes to the lesser joint."""
    pairs = []
    joint = 0
    for place in walk:
        _, u, v = web.links[place]
        pairs.append((place, 1 if u == joint else -1))
        joint = v if u == joint else u
    return pairs


def apart(web, streams):
    """A list of pairs (walk, ratio) into which a stream is taken apart."""
    left = amount(web, streams)
    sign = -1 if left < 0 else 1
    left = abs(left)
    parts = [sign * part for part in streams]
    pairs = []
    # A walk that has been gone has a place left with nothing, so once through all walks is enough;
    # what is left behind the amount are rings, which may pass the ends.
    for walk in walks_of(web):
        steps = steps_of(web, walk)
        most = Ratio.least([left] + [way * parts[place] for place, way in steps])
        if most > 0:
            pairs.append((walk, sign * most))
            left = left - most
            for place, way in steps:
                parts[place] = parts[place] - way * most
    return pairs


def work(web, values, streams):
    """The sum of the squares of the stream, each over the value of its place."""
    worths = values_at(web, values)
    if not is_stream(web, streams):
        raise BadStream()
    return Ratio.total([cost(worth, part) for worth, part in zip(worths, streams)])


def cost(worth, part):
    """The square of a stream over a value; endless through the value 0."""
    if not part:
        return Ratio(0)
    return (part * part).over(worth) if worth else Ratio.endless()
