"""Enough things of each sort that any way in which three of them can stand is found among them."""


def moment_things():
    return [0, 1, 2]


def stretch_things():
    # Three stretches have six ends at most.
    return [(low, high) for low in range(6) for high in range(low + 1, 6)]


def course_things():
    return [(first, second) for first in range(3) for second in range(3)]


def branch_things():
    # Three places need three storeys, and no more than two ways on from any place.
    ways = (0, 1)
    roots = [(one,) for one in ways]
    middles = [(one, two) for one in ways for two in ways]
    tops = [(one, two, three) for one in ways for two in ways for three in ways]
    return roots + middles + tops


def part_things():
    # Four marks show all that three sets can: more only tell again what these tell.
    return [[mark for mark in range(4) if number >> mark & 1] for number in range(1, 16)]


SAMPLES = {
    "moments": moment_things,
    "stretches": stretch_things,
    "courses": course_things,
    "branches": branch_things,
    "parts": part_things,
}


def things_of(word):
    """The sample things of a built table's word."""
    sample = SAMPLES[word]
    return sample()
