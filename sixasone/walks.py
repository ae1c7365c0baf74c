"""Walks and cuts of a web by places, and what is counted of them.

What the signs between webs run changes nothing that it is passed.
"""

from sixasone.bits import bits_of, first_within, mask_of


def steps_from(links, joint):
    """The pairs (place, joint at its other side) of the links at a joint."""
    return [(place, v if u == joint else u) for place, (_, u, v) in enumerate(links) if joint in (u, v)]


def walks_of(web):
    """The list of all walks, shorter ones first, those of one length as tuples compare."""
    if web.kind == "open":
        return [()]
    steps = {joint: steps_from(web.links, joint) for joint in web.joints}
    found = []
    begun = [((), (0,))]
    while begun:
        walk, passed = begun.pop()
        for place, joint in steps[passed[-1]]:
            if joint == 1:
                found.append(walk + (place,))
            elif joint not in passed:
                begun.append((walk + (place,), passed + (joint,)))
    return in_order(found)


def walked_places(web):
    """The ascending list of the places that are on a walk."""
    return sorted(set([place for walk in walks_of(web) for place in walk]))


def reached(links, start):
    """The joints, as keys of a dict, to which links lead from a joint."""
    found = {start: True}
    before = 0
    while before < len(found):
        before = len(found)
        for _, u, v in links:
            if u in found or v in found:
                found[u] = True
                found[v] = True
    return found


def cut_places(web):
    """The list of the least sets of places without which no walk is left, as ascending tuples."""
    if web.kind == "open":
        return []
    places = walked_places(web)
    if not places:
        return [()]
    links = [web.links[place] for place in places]
    sides = [far_closed(links, (0,))]
    found = {sides[0]: True}
    while sides:
        side = sides.pop()
        for grown in grown_sides(links, side):
            if grown not in found:
                found[grown] = True
                sides.append(grown)
    return [leaving(web, places, side) for side in list(found)]


def grown_sides(links, side):
    """The next greater sides of which all links that leave them lead on to joint 1."""
    beside = [v for _, u, v in links if u in side] + [u for _, u, v in links if v in side]
    joints = sorted(set([joint for joint in beside if joint not in side]))
    return [far_closed(links, side + (joint,)) for joint in joints if joint != 1]


def far_closed(links, side):
    """The side with all joints from which joint 1 is reached through the side alone."""
    far = reached([(name, u, v) for name, u, v in links if u not in side and v not in side], 1)
    ends = [u for _, u, v in links] + [v for _, u, v in links]
    return tuple(sorted(set([joint for joint in ends if joint not in far])))


def leaving(web, places, side):
    """Those of the places whose links leave a side."""
    sure = [(place, web.links[place][1] in side, web.links[place][2] in side) for place in places]
    return tuple([place for place, near, far in sure if near != far])


def count_of(web, places):
    """The count of places."""
    return tuple(sorted([str(web.links[place][0]) for place in places]))


def in_order(rows):
    """The list of the unlike tuples, shorter ones first, those of one length as tuples compare."""
    return sorted(sorted(set(rows)), key=len)


def holds(names, wanted):
    """Whether all wanted names are among names."""
    return all([name in names for name in wanted])


def least_of(counts):
    """The counts as tuples of unlike names, without those that hold another one."""
    sets = in_order([tuple(sorted(set(count))) for count in counts])
    bits = bits_of(sorted(set([name for names in sets for name in names])))
    found = []
    masks = []
    # What one holds is shorter, and stands ahead of it.
    for names in sets:
        mask = mask_of(bits, names)
        if first_within(masks, mask) is None:
            found.append(names)
            masks.append(mask)
    return found


def names_of_both(one, other):
    """The ascending list of the names that one or both webs have."""
    return sorted(set(list(one.names) + list(other.names)))


def joins(web, names):
    """Whether names join a web."""
    if web.kind == "open":
        return True
    return 1 in reached([link for link in web.links if link[0] in names], 0)


def is_never_worse(one, other):
    """Whether each way of one holds a way of other."""
    return all([joins(other, count_of(one, walk)) for walk in walks_of(one)])
