"""Flow: the greatest amount of a stream that has at each place at most its value."""

from sixasone.measures import ByCut, told_shut
from sixasone.places import is_shut, values_at
from sixasone.ratios import Ratio
from sixasone.streams import is_stream, leaves_joint
from sixasone.walks import leaving, steps_from


def steps_with_room(web, worths, streams):
    """By joint: the shortest steps (place, 1 or -1) from joint 0 that have room for more."""
    found = {0: ()}
    waiting = [0]
    while waiting:
        here = waiting.pop(0)
        for place, joint in steps_from(web.links, here):
            way = 1 if web.links[place][1] == here else -1
            if joint not in found and way * streams[place] < worths[place]:
                found[joint] = found[here] + ((place, way),)
                waiting.append(joint)
    return found


def greatest_stream(web, worths):
    """A greatest stream, and the joints to which some more could still go."""
    streams = [Ratio(0) for _ in web.links]
    found = steps_with_room(web, worths, streams)
    # Shortest steps first: so the number of rounds does not hang on the values.
    while 1 in found:
        most = Ratio.least([worths[place] - way * streams[place] for place, way in found[1]])
        for place, way in found[1]:
            streams[place] = streams[place] + way * most
        found = steps_with_room(web, worths, streams)
    return tuple(streams), list(found)


class Flow(ByCut):
    """The greatest amount of a stream that has at each place at most its value."""

    def __init__(self):
        super().__init__("flow", Ratio(1), Ratio(0))

    def __call__(self, web, values):
        number, _ = self.answer(web, values_at(web, values))
        return number

    def paper_of(self, web, values):
        """A paper that shows the number."""
        _, paper = self.answer(web, values_at(web, values))
        return paper

    def shows(self, web, values, number, paper):
        """Whether any two values are the number and a paper that shows it."""
        return self.admits(web, values_at(web, values), number, paper)

    def better(self, x, y):
        """Whether the ratio x is better than y."""
        return x > y

    def shut_in(self, web, values):
        """The shut places of the paper, or None for the open web."""
        return told_shut(self.paper_of(web, values))

    def answer(self, web, worths):
        """The number and a paper."""
        if web.kind == "open":
            return Ratio.endless(), ("open",)
        streams, side = greatest_stream(web, worths)
        places = leaving(web, list(range(len(web))), side)
        return leaves_joint(web, streams, 0), ("stream", streams, places)

    def admits(self, web, worths, number, paper):
        """Whether a paper shows a number."""
        if web.kind == "open":
            return number == Ratio.endless() and paper == ("open",)
        if not isinstance(paper, tuple) or len(paper) != 3:
            return False
        word, streams, places = paper
        if word != "stream" or not is_stream(web, streams) or leaves_joint(web, streams, 0) != number:
            return False
        if any([abs(part) > worth for part, worth in zip(streams, worths)]):
            return False
        return is_shut(web, places) and Ratio.total([worths[place] for place in places]) == number

    def __eq__(self, other):
        return isinstance(other, Flow)
