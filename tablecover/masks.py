"""Sets of wires as masks: whole numbers that have bit w where wire w is in the set."""


def wires_of(mask):
    """The wires of the mask, rising."""
    return tuple(wire for wire in range(mask.bit_length()) if (mask >> wire) & 1)


def fits(mask, k):
    """Whether the mask has at most k wires."""
    for turn in range(k):
        # This takes the least wire away; it leaves 0 as it is.
        mask &= mask - 1
    return mask == 0


def has_part(masks, mask):
    """Whether some, but not all, of the wires of the mask are a mask among the masks, a dict."""
    part = (mask - 1) & mask
    while part > 0:
        if part in masks:
            return True
        part = (part - 1) & mask
    return False
