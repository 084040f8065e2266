"""Things that stand as a standing over a built table tells.

For each word a function makes what one thing is of the kinds between all of them, both ways about.
"""

from kindweft.built import built

# Of the two ends of a stretch in each kind to another one: how many are ahead of this one's beginning and of its end.
ENDS_AHEAD = {
    "before": (2, 2),
    "meets": (1, 2),
    "overlaps": (1, 2),
    "begins": (0, 2),
    "within": (0, 2),
    "ends": (0, 1),
    "same": (0, 1),
    "ended": (1, 1),
    "around": (1, 1),
    "begun": (0, 1),
    "overlaid": (0, 1),
    "met": (0, 0),
    "after": (0, 0),
}


def moment_of(thing, things, kinds):
    """How many are ahead."""
    return len([other for other in things if kinds[other, thing] == "ahead"])


def stretch_of(thing, things, kinds):
    """For its beginning and its end, how many ends of all are ahead."""
    ahead = [ENDS_AHEAD[kinds[other, thing]] for other in things]
    return (sum([begin for begin, end in ahead]), sum([end for begin, end in ahead]))


def course_of(thing, things, kinds):
    """How many have less as their first number, and as their second; same has neither of the letters."""
    told = [kinds[other, thing] for other in things]
    return (len([kind for kind in told if "w" in kind]), len([kind for kind in told if "n" in kind]))


def branch_of(thing, things, kinds):
    """The places of all on the way to the thing, the ones with fewer above them first, and of all that are same."""
    way = [(height(other, things, kinds), place) for place, other in enumerate(things)
           if kinds[other, thing] in ("up", "same")]
    return tuple([place for above, place in sorted(way)])


def height(thing, things, kinds):
    """How many are above."""
    return len([other for other in things if kinds[other, thing] == "up"])


def part_of(thing, things, kinds):
    """A mark for each thing, had by all around it, and one for each two that are across, had by all around either."""
    marks = [(one, other) for place, one in enumerate(things) for other in things[place:]
             if one == other or kinds[one, other] == "across"]
    inner = [other for other in things if kinds[other, thing] in ("within", "same")]
    return [mark for mark, (one, other) in enumerate(marks) if one in inner or other in inner]


DRAWERS = {
    "moments": moment_of,
    "stretches": stretch_of,
    "courses": course_of,
    "branches": branch_of,
    "parts": part_of,
}


def drawn(word, things, standing):
    """The list of pairs of a thing and what it is, in the order of the things; NoTable for no word."""
    kinds = both_ways(built(word), things, standing)
    drawer = DRAWERS[word]
    return [(thing, drawer(thing, things, kinds)) for thing in things]


def both_ways(table, things, standing):
    """The kind of each two things, also turned about, and of each to itself."""
    kinds = {(thing, thing): table.same for thing in things}
    for one, other, kind in standing:
        kinds[one, other] = kind
        kinds[other, one] = table.back(kind)
    return kinds
