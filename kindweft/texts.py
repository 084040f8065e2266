"""Tables read from their texts."""

from kindweft.errors import BadTable
from kindweft.names import are_kinds
from kindweft.tables import Table, is_kind, places_by_name


def read_table(text):
    """The table of a text; BadTable with the first row that cannot stand there, then Unlawful."""
    rows = text.split("\n")
    names = read_kinds(rows)
    places = places_by_name(names)
    same = read_one(rows, 1, ["same"], places)
    backs = [read_one(rows, 2 + at, ["back", name], places) for at, name in enumerate(names)]
    steps = read_steps(rows, 2 + len(names), names, places)
    size = 2 + len(names) + len(names) * len(names)
    if len(rows) > size:
        raise BadTable(size)
    return Table(names, same, backs, steps)


def words_at(rows, at):
    # Rows are read in order, so the first one that lacks has the number behind the last.
    if at >= len(rows):
        raise BadTable(at)
    # Parted at each single blank: a blank too many leaves an empty word, which is no name.
    return rows[at].split(" ")


def read_kinds(rows):
    words = words_at(rows, 0)
    names = words[1:]
    if words[0] != "kinds" or not are_kinds(names):
        raise BadTable(0)
    return names


def read_one(rows, at, head, places):
    """The one kind that stands behind the words of the head."""
    words = words_at(rows, at)
    if words[:-1] != head or not is_kind(words[-1], places):
        raise BadTable(at)
    return words[-1]


def read_steps(rows, start, names, places):
    steps = []
    at = start
    for one in names:
        row = []
        for other in names:
            row.append(read_set(rows, at, ["step", one, other, "="], places))
            at += 1
        steps.append(row)
    return steps


def read_set(rows, at, head, places):
    """The kinds behind the words of the head, which stand in order, each once."""
    words = words_at(rows, at)
    size = len(head)
    kinds = words[size:]
    if words[:size] != head or not are_rising(kinds, places):
        raise BadTable(at)
    return kinds


def are_rising(kinds, places):
    last = -1
    for kind in kinds:
        if not is_kind(kind, places) or places[kind] <= last:
            return False
        last = places[kind]
    return True
