"""Ways: what walks of a web are by names."""

from sixasone.walks import count_of, holds, in_order, joins, least_of, walks_of


def way_list(web):
    """The list of the ways, in their order."""
    return in_order([count_of(web, walk) for walk in walks_of(web)])


def ways(web):
    """The ways, in their order."""
    yield from way_list(web)


def least_ways(web):
    """The list of the least ways."""
    return least_of(way_list(web))


def joined(web, names):
    """Whether names, perhaps some twice, join a web."""
    return joins(web, names)


def way_in(web, names):
    """The first way all of whose names are among names, or None."""
    for way in way_list(web):
        if holds(names, way):
            return way
    return None


def is_way(web, thing):
    """Whether any value is a way."""
    return thing in way_list(web)


def walk_of(web, thing):
    """The least walk whose count is any value, or None."""
    for walk in sorted(set(walks_of(web))):
        if count_of(web, walk) == thing:
            return walk
    return None
