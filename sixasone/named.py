"""The measures by their words."""

from sixasone.chances import Chance
from sixasone.eases import Ease
from sixasone.errors import BadName
from sixasone.flows import Flow
from sixasone.measures import Joined, Length, Width

WORDS = ("joined", "length", "width", "flow", "chance", "ease")


def measure(word):
    """The measure with a word."""
    for asked in [Joined(), Length(), Width(), Flow(), Chance(), Ease()]:
        if asked.word == word:
            return asked
    raise BadName(word)
