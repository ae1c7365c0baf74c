"""Names and joints as bits of whole numbers, where many sets of them are held against each other."""


def bits_of(names):
    """A bit for each of some names, in their order."""
    return {name: 1 << at for at, name in enumerate(names)}


def mask_of(bits, names):
    """The bits of names; one that has none adds nothing."""
    mask = 0
    for name in names:
        mask = mask | bits.get(name, 0)
    return mask


def names_at(bits, mask):
    """The tuple of the names whose bits are in a mask, in their order."""
    return tuple([name for name in bits if bits[name] & mask])


def first_within(masks, mask):
    """The first of some masks all of whose bits are in another one, or None."""
    for each in masks:
        if (each & mask) == each:
            return each
    return None


def spread(rows, start, names):
    """The joints to which rows (bit of a name, bits of two joints) with some names lead from others."""
    side, before = start, 0
    while side != before:
        before = side
        for bit, ends in rows:
            if bit & names and ends & side:
                side = side | ends
    return side


class Wires:
    """The links of a web as bits; the left end is the bit 1."""

    def __init__(self, web, bits):
        joint_bits = bits_of(web.joints)
        self.rows = [(bits[name], joint_bits[u] | joint_bits[v]) for name, u, v in web.links]
        self.right = 1 if web.kind == "open" else joint_bits[1]

    def are_joined(self, names):
        """Whether the ends are joined by names, told by a mask."""
        return bool(spread(self.rows, 1, names) & self.right)

    def cut_within(self, shut):
        """The mask of the names of a cut among names without which the ends are parted."""
        near = spread(self.rows, 1, ~shut)
        far = spread([row for row in self.rows if not row[1] & near], self.right, -1)
        cut = 0
        for bit, ends in self.rows:
            if ends & near and ends & far:
                cut = cut | bit
        return cut
