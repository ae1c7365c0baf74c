"""Cuts: what least sets of places that part the ends are by names."""

from sixasone.walks import count_of, cut_places, holds, in_order, least_of


def cut_list(web):
    """The list of the cuts, in their order."""
    return in_order([count_of(web, places) for places in cut_places(web)])


def cuts(web):
    """The cuts, in their order."""
    yield from cut_list(web)


def least_cuts(web):
    """The list of the least cuts."""
    return least_of(cut_list(web))


def cut_in(web, names):
    """The first cut all of whose names are among names, or None."""
    for cut in cut_list(web):
        if holds(names, cut):
            return cut
    return None


def is_cut(web, thing):
    """Whether any value is a cut."""
    return thing in cut_list(web)
