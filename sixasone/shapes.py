"""Shapes: the plain tuples of which webs are made.

A shape is ("link", name), ("net", links), ("row", parts), ("bunch", parts), OPEN or SHUT.
The parts are shapes; the links are tuples (name, u, v) with u <= v, in their order.
What operators run creates all lists anew, and changes none that it is passed.
"""

OPEN = ("open",)
SHUT = ("shut",)


def ordered_links(links):
    """Links with the lesser joint ahead, ordered by names, then by joints."""
    rows = [(name, u, v) if u <= v else (name, v, u) for name, u, v in links]
    # The index keeps equal links apart.
    ranked = sorted(set([(name, u, v, at) for at, (name, u, v) in enumerate(rows)]))
    return tuple([row[:3] for row in ranked])


def joints_of(links):
    """The ascending list of 0, 1 and all joints of links."""
    return sorted(set([0, 1] + [u for _, u, v in links] + [v for _, u, v in links]))


def net_shape(links):
    """The net of some links; shut without any."""
    return ("net", ordered_links(links)) if links else SHUT


def compound(kind, parts):
    """The row or the bunch of some shapes."""
    spoiling, needless = (SHUT, OPEN) if kind == "row" else (OPEN, SHUT)
    flat = []
    for part in parts:
        flat.extend(part[1] if part[0] == kind else [part])
    if spoiling in flat:
        return spoiling
    kept = [part for part in flat if part != needless]
    if not kept:
        return needless
    return kept[0] if len(kept) == 1 else (kind, tuple(kept))


def laid(shape, left, right, free):
    """The laid links of a shape between two joints, and the next free number."""
    kind = shape[0]
    if kind == "link":
        return [(shape[1], left, right)], free
    if kind == "net":
        return laid_net(shape[1], left, right, free)
    if kind == "row":
        return laid_row(shape[1], left, right, free)
    links = []
    if kind == "bunch":
        for part in shape[1]:
            more, free = laid(part, left, right, free)
            links.extend(more)
    return links, free


def laid_row(parts, left, right, free):
    """The laid links of the parts of a row, and the next free number."""
    links = []
    near = left
    for part in parts[:-1]:
        far = free
        more, free = laid(part, near, far, free + 1)
        links.extend(more)
        near = far
    more, free = laid(parts[-1], near, right, free)
    links.extend(more)
    return links, free


def laid_net(net_links, left, right, free):
    """The laid links of a net within another shape, and the next free number."""
    inner = joints_of(net_links)[2:]
    moved = moved_links(net_links, left, right, list(range(free, free + len(inner))))
    return moved, free + len(inner)


def moved_links(links, left, right, numbers):
    """Links with other joints: left for 0, right for 1, and the numbers, in order, for the inner ones."""
    joint_at = {0: left, 1: right}
    for at, joint in enumerate(joints_of(links)[2:]):
        joint_at[joint] = numbers[at]
    return [(name, joint_at[u], joint_at[v]) for name, u, v in links]


def links_of(shape):
    """The tuple of the links of a shape."""
    if shape[0] == "net":
        return shape[1]
    links, _ = laid(shape, 0, 1, 2)
    return ordered_links(links)


def is_netless(shape):
    """Whether there is no net in a shape."""
    if shape[0] in ("row", "bunch"):
        return all([is_netless(part) for part in shape[1]])
    return shape[0] != "net"


def dual(shape):
    """The dual of a tied shape."""
    kind = shape[0]
    if kind == "link":
        return shape
    if kind in ("row", "bunch"):
        return ("bunch" if kind == "row" else "row", tuple([dual(part) for part in shape[1]]))
    return SHUT if shape == OPEN else OPEN


def flipped(shape):
    """The shape with its ends exchanged."""
    kind = shape[0]
    if kind == "net":
        joints = joints_of(shape[1])
        return net_shape(moved_links(shape[1], 1, 0, joints[2:]))
    if kind == "row":
        return ("row", tuple([flipped(part) for part in shape[1][::-1]]))
    if kind == "bunch":
        return ("bunch", tuple([flipped(part) for part in shape[1]]))
    return shape


def put_in(shape, name, other):
    """The shape with another one in each place of the name."""
    kind = shape[0]
    if kind == "link":
        return other if shape[1] == name else shape
    if kind in ("row", "bunch"):
        return compound(kind, [put_in(part, name, other) for part in shape[1]])
    if kind == "net":
        return made_sure(shape[1], name) if other == OPEN else put_in_net(shape[1], name, other)
    return shape


def put_in_net(links, name, other):
    """The net of some links with a shape that is not open in each place of the name."""
    pieces = links_of(other)
    inner = len(joints_of(pieces)) - 2
    places = [link for link in links if link[0] == name]
    joints = joints_of(links)
    most = len(joints) + inner * len(places)
    free = [number for number in range(2, 2 + most) if number not in joints]
    found = [link for link in links if link[0] != name]
    for at, (_, u, v) in enumerate(places):
        found.extend(moved_links(pieces, u, v, free[at * inner:(at + 1) * inner]))
    return net_shape(found)


def merged_links(links, low, high):
    """Links in which the joint high has become the joint low."""
    return ordered_links([(name, low if u == high else u, low if v == high else v) for name, u, v in links])


def made_sure(links, name):
    """The net of some links in which the two joints of each place of the name are one."""
    rows = list(links)
    places = [link for link in rows if link[0] == name]
    while places:
        _, low, high = places[0]
        if (low, high) == (0, 1):
            return OPEN
        rows.remove(places[0])
        rows = list(merged_links(rows, low, high))
        places = [link for link in rows if link[0] == name]
    return net_shape(rows)


def text_of(shape):
    """The text of a shape."""
    kind = shape[0]
    if kind == "link":
        return shape[1]
    if kind == "net":
        within = " ".join([f"{u}-{name}-{v}" for name, u, v in shape[1]])
        return f"[{within}]"
    if kind == "row":
        within = " & ".join([text_of(part) for part in shape[1]])
        return f"({within})"
    if kind == "bunch":
        within = " | ".join([text_of(part) for part in shape[1]])
        return f"({within})"
    return kind
