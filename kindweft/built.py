"""The tables that are built in by words, each made of what things of its sort show."""

from kindweft.errors import NoTable
from kindweft.readings import kind_between
from kindweft.samples import things_of
from kindweft.tables import Table

WORDS = ("moments", "stretches", "courses", "branches", "parts")
KINDS = {
    "moments": ("ahead", "same", "behind"),
    "stretches": (
        "before", "meets", "overlaps", "begins", "within", "ends", "same",
        "ended", "around", "begun", "overlaid", "met", "after",
    ),
    "courses": ("nw", "n", "ne", "w", "same", "e", "sw", "s", "se"),
    "branches": ("up", "same", "down", "apart"),
    "parts": ("within", "around", "same", "across", "apart"),
}


def built(word):
    """The table of a word."""
    if word not in WORDS:
        raise NoTable(word)
    things = things_of(word)
    read = [[kind_between(word, one, other) for other in things] for one in things]
    names = list(KINDS[word])
    return Table(names, "same", shown_backs(names, read), shown_steps(names, read))


def read_off(word, one, other):
    """The kind in which two things of the word's sort stand."""
    if word not in WORDS:
        raise NoTable(word)
    return kind_between(word, one, other)


def shown_backs(names, read):
    """The back of each kind; read has the kind of each two things."""
    backs = {}
    for one, row in enumerate(read):
        for other, kind in enumerate(row):
            backs[kind] = read[other][one]
    return [backs[name] for name in names]


def shown_steps(names, read):
    """The kinds that some three things show, for each two kinds."""
    shown = {(one, other): {} for one in names for other in names}
    for row in read:
        for middle, first in enumerate(row):
            for last, second in enumerate(read[middle]):
                shown[first, second][row[last]] = True
    return [[list(shown[one, other]) for other in names] for one in names]
