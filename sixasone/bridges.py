"""The bridge, and which plain webs are alike to tied ones."""

from sixasone.idles import bare
from sixasone.orders import alike
from sixasone.plains import check_plain
from sixasone.trees import are_names
from sixasone.webs import Web


def is_bridge(web):
    """Whether a web is the bridge, by its links."""
    if not web.is_plain or len(web) != 5 or len(web.joints) != 4:
        return False
    _, _, p, q = web.joints
    return sorted(set([(u, v) for _, u, v in web.links])) == [(0, p), (0, q), (1, p), (1, q), (p, q)]


def side_by_side(rows):
    """The rows (u, v, web), those between the same two joints as one bunch."""
    found = {}
    for u, v, part in rows:
        found[(u, v)] = found[(u, v)] | part if (u, v) in found else part
    return [(u, v, part) for (u, v), part in found.items()]


def spared_joint(rows):
    """The least inner joint that just two rows touch, or None."""
    for joint in sorted(set([end for u, v, _ in rows for end in (u, v)])):
        if joint > 1 and len([row for row in rows if joint in row[:2]]) == 2:
            return joint
    return None


def one_behind_other(rows, joint):
    """The rows, the two that touch a joint as one row."""
    near, far = [row for row in rows if joint in row[:2]]
    low, high = sorted(set([u + v - joint for u, v, _ in (near, far)]))
    return [row for row in rows if joint not in row[:2]] + [(low, high, near[2] & far[2])]


def tied_form(web):
    """A tied web that is alike to a plain one, or None."""
    core = bare(web)
    if core.kind == "open":
        return core
    rows = side_by_side([(u, v, Web.link(name)) for name, u, v in core.links])
    joint = spared_joint(rows)
    while joint is not None:
        rows = side_by_side(one_behind_other(rows, joint))
        joint = spared_joint(rows)
    if len(rows) > 1:
        return None
    return rows[0][2] if rows else Web.never()


def tied_of(web):
    """A tied web that is alike, or the names to be taken out and made sure for the bridge."""
    check_plain(web)
    found = tied_form(web)
    if found is not None:
        return ("tied", found)
    left, taken, made = web, [], []
    # A name that is needed once is needed by all that is left later; so each is tried once.
    for name in web.names:
        if tied_form(left.without(name)) is None:
            left = left.without(name)
            taken.append(name)
        elif tied_form(left.sure(name)) is None:
            left = left.sure(name)
            made.append(name)
    return ("bridge", tuple(taken), tuple(made))


def shows_bridge(web, taken, made):
    """Whether any two values are names that leave the bridge."""
    if not are_names(taken) or not are_names(made) or any([name in made for name in taken]):
        return False
    if not all([name in web for name in taken + made]):
        return False
    return is_bridge(web.without(*taken).sure(*made))


def shows_tied(web, thing):
    """Whether any value is as tied_of tells."""
    check_plain(web)
    if not isinstance(thing, tuple):
        return False
    if len(thing) == 3 and thing[0] == "bridge":
        return shows_bridge(web, thing[1], thing[2])
    if len(thing) != 2 or thing[0] != "tied" or not isinstance(thing[1], Web):
        return False
    # In a tied web no name is idle.
    return thing[1].is_tied and thing[1].is_plain and alike(web, thing[1])
