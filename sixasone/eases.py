"""Ease: how easily a stream goes through, where each place lets through its value times the fall."""

from sixasone.measures import Measure
from sixasone.places import are_finite, values_at
from sixasone.ratios import Ratio
from sixasone.streams import is_stream, leaves_joint


def merged_eases(web, worths):
    """By joint, by joint beside it: the sum of the values of the places between the two."""
    eases = {joint: {} for joint in web.joints}
    for (_, u, v), worth in zip(web.links, worths):
        if u != v and worth:
            ease = eases[u].get(v, Ratio(0)) + worth
            eases[u][v] = ease
            eases[v][u] = ease
    return eases


def take_out(eases, joint):
    """Puts links between all joints beside a joint in its place; returns the values to these joints."""
    beside = eases.pop(joint)
    total = Ratio.total(list(beside.values()))
    for one in beside:
        for other in beside:
            if one != other:
                more = (beside[one] * beside[other]).over(total)
                eases[one][other] = eases[one].get(other, Ratio(0)) + more
    for one in beside:
        del eases[one][joint]
    return beside


def heights_of(web, worths):
    """Heights of the joints, 1 at joint 0 and 0 at joint 1, at which the streams are balanced."""
    eases = merged_eases(web, worths)
    taken = [(joint, take_out(eases, joint)) for joint in web.joints[2:]]
    heights = {0: Ratio(1), 1: Ratio(0)}
    for joint, beside in taken[::-1]:
        heights[joint] = Ratio(0)
        if beside:
            parts = [beside[other] * heights[other] for other in beside]
            heights[joint] = Ratio.total(parts).over(Ratio.total(list(beside.values())))
    return tuple([heights[joint] for joint in web.joints])


def streams_at(web, worths, heights):
    """The streams of the value times the fall, for each place."""
    height_at = dict(zip(web.joints, heights))
    return tuple([worth * (height_at[u] - height_at[v]) for (_, u, v), worth in zip(web.links, worths)])


class Ease(Measure):
    """The amount of the stream that a fall from 1 to 0 makes."""

    def __init__(self):
        super().__init__("ease", Ratio(1), Ratio(0))

    def __call__(self, web, values):
        number, _ = self.answer(web, values_at(web, values))
        return number

    def paper_of(self, web, values):
        """A paper that shows the number."""
        _, paper = self.answer(web, values_at(web, values))
        return paper

    def shows(self, web, values, number, paper):
        """Whether any two values are the number and a paper that shows it."""
        return self.admits(web, values_at(web, values), number, paper)

    def better(self, x, y):
        """Whether the ratio x is better than y."""
        return x > y

    def answer(self, web, worths):
        """The number and a paper."""
        if web.kind == "open":
            return Ratio.endless(), ("open",)
        heights = heights_of(web, worths)
        streams = streams_at(web, worths, heights)
        return leaves_joint(web, streams, 0), ("stream", streams, heights)

    def admits(self, web, worths, number, paper):
        """Whether a paper shows a number."""
        if web.kind == "open":
            return number == Ratio.endless() and paper == ("open",)
        if not isinstance(paper, tuple) or len(paper) != 3:
            return False
        word, streams, heights = paper
        if word != "stream" or not is_stream(web, streams) or not are_finite(heights, len(web.joints)):
            return False
        if heights[0] != Ratio(1) or heights[1] != Ratio(0) or leaves_joint(web, streams, 0) != number:
            return False
        return streams == streams_at(web, worths, heights)

    def __eq__(self, other):
        return isinstance(other, Ease)
