"""Books led over to other tables, and two books joined."""

from kindweft.book import MOST_SAYINGS, MOST_THINGS, book_at
from kindweft.errors import BadKinds, Full, Unlike
from kindweft.made import is_parting, turned


def paired_book(one, other, table):
    """The sayings of both books over the paired table; each leaves the part of the other book open."""
    firsts, seconds = one.table().kinds(), other.table().kinds()
    if one.things() != other.things() or len(table) != len(firsts) * len(seconds):
        raise Unlike()
    pairs = [(first, second) for first in firsts for second in seconds]
    naming = list(zip(pairs, table.kinds()))
    sayings = []
    for number, x, y, kinds in one.sayings():
        sayings.append((x, y, [name for pair, name in naming if pair[0] in kinds]))
    for number, x, y, kinds in other.sayings():
        sayings.append((x, y, [name for pair, name in naming if pair[1] in kinds]))
    return new_book(table, one.things(), sayings)


def turned_book(book):
    """The sayings turned about, over the turned table."""
    sayings = [(other, one, kinds) for number, one, other, kinds in book.sayings()]
    return new_book(turned(book.table()), book.things(), sayings)


def coarser_book(book, table, blocks):
    """Each saying with the blocks that meet its kinds; the table has a kind for each block, in order."""
    ground = book.table()
    parts = [ground.ordered(block) for block in blocks]
    if len(parts) != len(table) or not is_parting(ground, parts):
        raise BadKinds()
    naming = {kind: name for part, name in zip(parts, table.kinds()) for kind in part}
    sayings = []
    for number, one, other, kinds in book.sayings():
        sayings.append((one, other, table.ordered([naming[kind] for kind in kinds])))
    return new_book(table, book.things(), sayings)


def joined(one, other):
    """The things and the sayings of both books, the first one's ahead."""
    if one.table() != other.table():
        raise Unlike()
    first = one.things()
    further = [name for name in other.things() if name not in first]
    sayings = [row[1:] for row in one.sayings() + other.sayings()]
    return new_book(one.table(), first + further, sayings)


def new_book(table, things, sayings):
    """A book of these things and sayings (one, other, kinds in order), numbered from 1 on."""
    if len(things) > MOST_THINGS or len(sayings) > MOST_SAYINGS:
        raise Full()
    rows = [(at + 1, one, other, tuple(kinds)) for at, (one, other, kinds) in enumerate(sayings)]
    return book_at(table, (tuple(things), tuple(rows), len(rows) + 1))
