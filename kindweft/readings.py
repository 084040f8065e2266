"""The kind in which two things stand, one function for each sort of things."""

NORTHS = {"ahead": "n", "same": "", "behind": "s"}
WESTS = {"ahead": "w", "same": "", "behind": "e"}
# By how two stretches that share more than an end begin, and how they end.
SHARING = {
    ("ahead", "ahead"): "overlaps",
    ("ahead", "same"): "ended",
    ("ahead", "behind"): "around",
    ("same", "ahead"): "begins",
    ("same", "same"): "same",
    ("same", "behind"): "begun",
    ("behind", "ahead"): "within",
    ("behind", "same"): "ends",
    ("behind", "behind"): "overlaid",
}


def moment_kind(one, other):
    """Of two whole numbers."""
    if one < other:
        return "ahead"
    if one > other:
        return "behind"
    return "same"


def stretch_kind(one, other):
    """Of two pairs of whole numbers, the first less than the second."""
    if one[1] < other[0]:
        return "before"
    if one[1] == other[0]:
        return "meets"
    if one[0] > other[1]:
        return "after"
    if one[0] == other[1]:
        return "met"
    return SHARING[moment_kind(one[0], other[0]), moment_kind(one[1], other[1])]


def course_kind(one, other):
    """Of two pairs of whole numbers."""
    letters = NORTHS[moment_kind(one[1], other[1])] + WESTS[moment_kind(one[0], other[0])]
    return letters or "same"


def branch_kind(one, other):
    """Of two places in a forest, each the tuple of the way from a root."""
    if one == other:
        return "same"
    if one == other[:len(one)]:
        return "up"
    if other == one[:len(other)]:
        return "down"
    return "apart"


def part_kind(one, other):
    """Of two sets of marks, each a rising list, none empty."""
    shared = len(set(one) & set(other))
    if shared == 0:
        return "apart"
    if shared == len(one) and shared == len(other):
        return "same"
    if shared == len(one):
        return "within"
    if shared == len(other):
        return "around"
    return "across"


READERS = {
    "moments": moment_kind,
    "stretches": stretch_kind,
    "courses": course_kind,
    "branches": branch_kind,
    "parts": part_kind,
}


def kind_between(word, one, other):
    """The kind of two things of the sort of a built table's word."""
    reader = READERS[word]
    return reader(one, other)
