"""What is on no walk of a web."""

from sixasone.walks import walked_places
from sixasone.webs import Web


def idle(web):
    """The ascending tuple of the names of which no place is on a walk."""
    used = [web.links[place][0] for place in walked_places(web)]
    return tuple([name for name in web.names if name not in used])


def bare(web):
    """The net of the links that are on a walk; the open web as it is."""
    if web.kind == "open":
        return web
    return Web.net([web.links[place] for place in walked_places(web)])
