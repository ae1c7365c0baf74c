"""Webs: links with names between two ends."""

from sixasone.errors import BadName, BadWeb, NoName, NotTied, TooMany
from sixasone.names import is_int, is_name
from sixasone.reading import read_shape
from sixasone.shapes import OPEN, SHUT, compound, dual, flipped, is_netless, joints_of, links_of, net_shape, put_in
from sixasone.shapes import text_of
from sixasone.walks import is_never_worse


def is_link(thing):
    """Whether any value is a tuple of a name and two joints."""
    if not isinstance(thing, tuple) or len(thing) != 3 or not is_name(thing[0]):
        return False
    return all([is_int(joint) and 0 <= joint <= 99 for joint in thing[1:]])


def shape_of(part, at):
    """The shape of a part: a web, or a name for its link."""
    if isinstance(part, Web):
        return part.shape
    if not is_name(part):
        raise BadWeb(at)
    return ("link", part)


def web_of(shape):
    """The web of a shape, if it has not too many places."""
    if len(links_of(shape)) > Web.MOST:
        raise TooMany(Web.MOST)
    return Web(shape)


class Web:
    """A web; it is made by the static methods, and never changes."""

    MOST = 14

    def __init__(self, shape):
        self.shape = shape
        self.laid_links = links_of(shape)

    @staticmethod
    def link(name):
        """The web of one link."""
        if not is_name(name):
            raise BadName(name)
        return Web(("link", name))

    @staticmethod
    def net(links):
        """The web of links (name, u, v) between numbered joints."""
        if not isinstance(links, (list, tuple)):
            raise BadWeb(None)
        if len(links) > Web.MOST:
            raise TooMany(Web.MOST)
        for at, thing in enumerate(links):
            if not is_link(thing):
                raise BadWeb(at)
        return Web(net_shape(links))

    @staticmethod
    def row(*parts):
        """The parts one behind the other."""
        return web_of(compound("row", [shape_of(part, at) for at, part in enumerate(parts)]))

    @staticmethod
    def bunch(*parts):
        """The parts side by side."""
        return web_of(compound("bunch", [shape_of(part, at) for at, part in enumerate(parts)]))

    @staticmethod
    def always():
        """The open web."""
        return Web(OPEN)

    @staticmethod
    def never():
        """The shut web."""
        return Web(SHUT)

    @classmethod
    def read(cls, text):
        """The web that a text writes."""
        return cls(read_shape(text))

    @property
    def kind(self):
        """link, net, row, bunch, open or shut."""
        return self.shape[0]

    @property
    def parts(self):
        """The parts of a row or a bunch."""
        if self.shape[0] not in ("row", "bunch"):
            return ()
        return tuple([Web(part) for part in self.shape[1]])

    @property
    def links(self):
        """The links with the numbers of their joints."""
        return self.laid_links

    @property
    def joints(self):
        """0, 1 and all joints of links."""
        return tuple(joints_of(self.laid_links))

    @property
    def names(self):
        """The unlike names."""
        return tuple(sorted(set([link[0] for link in self.laid_links])))

    @property
    def is_plain(self):
        """Whether each name has one place."""
        return len(self.names) == len(self.laid_links)

    @property
    def is_tied(self):
        """Whether there is no net in the web."""
        return is_netless(self.shape)

    def without(self, *names):
        """The web with all places of the names taken out."""
        return self.with_each(names, SHUT)

    def sure(self, *names):
        """The web with all places of the names made sure."""
        return self.with_each(names, OPEN)

    def with_each(self, names, shape):
        """The web with a shape in each place of the names, open or shut."""
        for name in names:
            if not is_name(name):
                raise BadName(name)
        found = self.shape
        for name in names:
            found = put_in(found, name, shape)
        return Web(found)

    def put(self, name, other):
        """The web with another one in each place of the name."""
        if name not in self:
            raise NoName(name)
        return web_of(put_in(self.shape, name, shape_of(other, 1)))

    def net_of(self):
        """The net of the links; the open web as it is."""
        return self if self.kind == "open" else Web(net_shape(self.laid_links))

    def __and__(self, other):
        return Web.row(self, other)

    def __rand__(self, other):
        return Web.row(other, self)

    def __or__(self, other):
        return Web.bunch(self, other)

    def __ror__(self, other):
        return Web.bunch(other, self)

    def __invert__(self):
        if not self.is_tied:
            raise NotTied()
        return Web(dual(self.shape))

    def __neg__(self):
        return Web(flipped(self.shape))

    def __sub__(self, name):
        if name not in self:
            raise NoName(name)
        return Web(put_in(self.shape, name, SHUT))

    def __floordiv__(self, name):
        if name not in self:
            raise NoName(name)
        return Web(put_in(self.shape, name, OPEN))

    def __contains__(self, x):
        return x in self.names

    def __len__(self):
        return len(self.laid_links)

    def __abs__(self):
        return len(self.names)

    def __eq__(self, other):
        return isinstance(other, Web) and self.shape == other.shape

    def __le__(self, other):
        if not isinstance(other, Web):
            return NotImplemented
        return is_never_worse(self, other)

    def __lt__(self, other):
        if not isinstance(other, Web):
            return NotImplemented
        return is_never_worse(self, other) and not is_never_worse(other, self)

    def __ge__(self, other):
        if not isinstance(other, Web):
            return NotImplemented
        return is_never_worse(other, self)

    def __gt__(self, other):
        if not isinstance(other, Web):
            return NotImplemented
        return is_never_worse(other, self) and not is_never_worse(self, other)

    def __str__(self):
        return str(text_of(self.shape))
