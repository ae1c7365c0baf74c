"""Plain webs: each name has one place."""

from sixasone.errors import NotPlain


def check_plain(*webs):
    """Raises NotPlain for the first web that has names at several places, with the least of them."""
    for web in webs:
        placed = [link[0] for link in web.links]
        for name in web.names:
            if placed.count(name) > 1:
                raise NotPlain(name)
