"""Sets of kinds as numbers: the bit at a kind's place tells whether the kind is in the set."""


def set_of(places):
    """The set of these places."""
    held = 0
    for place in places:
        held |= 1 << place
    return held


def places_in(held):
    """The places in a set, rising."""
    return [place for place in range(held.bit_length()) if held >> place & 1]


def union_at(rows, held):
    """All sets at these places of a list of sets, put together."""
    union = 0
    for place in places_in(held):
        union |= rows[place]
    return union
