"""Tables made of tables."""

from kindweft.errors import BadKinds, BadTable, Full
from kindweft.names import LETTERS, MOST_KINDS, are_kinds
from kindweft.tables import Table


def paired(one, other, *, names=None):
    """A kind for each pair of kinds, the first one's slowest; backs and steps are those of either part."""
    if len(one) * len(other) > MOST_KINDS:
        raise Full()
    pairs = [(first, second) for first in one.kinds() for second in other.kinds()]
    called = lettered(len(one), len(other)) if names is None else checked_names(names, len(pairs))
    naming = {pair: name for pair, name in zip(pairs, called)}
    backs = [naming[one.back(first), other.back(second)] for first, second in pairs]
    steps = [[[naming[pair] for pair in paired_step(one, other, x, y)] for y in pairs] for x in pairs]
    return Table(called, naming[one.same, other.same], backs, steps)


def paired_step(one, other, x, y):
    """The step of two pairs of kinds, as pairs."""
    return [(first, second) for first in one.step(x[0], y[0]) for second in other.step(x[1], y[1])]


def lettered(many, more):
    """Names of two letters for pairs, by the places of their parts."""
    return [first + second for first in LETTERS[:many] for second in LETTERS[:more]]


def checked_names(names, size):
    """The names themselves, where they can be the names of so many kinds."""
    if not are_kinds(names) or len(names) != size:
        raise BadTable(-1)
    return list(names)


def turned(table):
    """The same kinds and backs; the step of two kinds is that of the second and the first."""
    kinds = table.kinds()
    steps = [[table.step(other, one) for other in kinds] for one in kinds]
    return Table(kinds, table.same, [table.back(kind) for kind in kinds], steps)


def renamed(table, names):
    """Other names at the same places."""
    kinds = table.kinds()
    called = checked_names(names, len(kinds))
    naming = {kind: name for kind, name in zip(kinds, called)}
    backs = [naming[table.back(kind)] for kind in kinds]
    steps = [[[naming[kind] for kind in table.step(one, other)] for other in kinds] for one in kinds]
    return Table(called, naming[table.same], backs, steps)


def coarser(table, blocks, names):
    """Kinds drawn together: one kind for each block."""
    parts = [table.ordered(block) for block in blocks]
    if not is_parting(table, parts):
        raise BadKinds()
    called = checked_names(names, len(parts))
    naming = {kind: name for part, name in zip(parts, called) for kind in part}
    backs = [naming[table.back(part[0])] for part in parts]
    steps = [[[naming[kind] for kind in table.steps(one, other)] for other in parts] for one in parts]
    return Table(called, naming[table.same], backs, steps)


def is_parting(table, parts):
    """Whether parts, each in order, part all kinds, same is alone in one, and the back of each is one."""
    if [] in parts or [table.same] not in parts:
        return False
    if sorted([kind for part in parts for kind in part]) != sorted(table.kinds()):
        return False
    return all([table.backs(part) in parts for part in parts])
