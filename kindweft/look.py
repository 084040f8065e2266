"""The looker: walks steps, trees that bar and standings, whatever is handed in for them."""

from kindweft.webs import web_of


def led(book, steps):
    """The sets of each two things that the steps lead to from the sayings; None where one is no step."""
    web = web_of(book)
    if not take_all(web, steps):
        return None
    table = book.table()
    sets = web.sets
    return [(one, other, table.listed(sets[web.places[one]][web.places[other]])) for one, other in pairs_of(book)]


def bars(book, tree):
    """Whether this is a tree that bars the book."""
    return bars_web(book.table(), web_of(book), tree)


def fits(book, standing):
    """Whether this is a standing of the book."""
    pairs = pairs_of(book)
    if not isinstance(standing, list) or len(standing) != len(pairs):
        return False
    table = book.table()
    web = web_of(book)
    for (one, other), row in zip(pairs, standing):
        if not is_row(row, one, other, table):
            return False
        web.leave(web.places[one], web.places[other], table.gathered([row[2]]))
    # Each set has one kind at most now: a step that would change one would empty it.
    return not web.close() and not web.has_empty()


def pairs_of(book):
    """Each two things, one ahead of other, in order."""
    things = book.things()
    return [(one, other) for place, one in enumerate(things) for other in things[place + 1:]]


def is_row(row, one, other, table):
    """Whether anything at all is the tuple of these two things and a kind."""
    if not are_texts(row, 3):
        return False
    return row[:2] == (one, other) and row[2] in table.places


def are_texts(row, size):
    """Whether anything at all is a tuple of so many texts; what is none is never compared or looked up."""
    return isinstance(row, tuple) and len(row) == size and all([isinstance(word, str) for word in row])


def is_step(step, places):
    """Whether anything at all is a step of three unlike things."""
    return are_texts(step, 3) and all([name in places for name in step]) and len(set(step)) == 3


def take_all(web, steps):
    """Takes all steps of a list; False where it is none, or has something that is no step."""
    if not isinstance(steps, list) or not all([is_step(step, web.places) for step in steps]):
        return False
    for one, through, other in steps:
        web.take(web.places[one], web.places[through], web.places[other])
    return True


def bars_web(table, web, tree):
    """Whether a tree bars a web; the web is not to be used behind this."""
    if not isinstance(tree, tuple) or len(tree) not in (2, 5) or not isinstance(tree[0], str):
        return False
    if not take_all(web, tree[1]):
        return False
    if len(tree) == 2:
        return tree[0] == "shut" and web.has_empty()
    return tree[0] == "cases" and cases_bar(table, web, tree[2:4], tree[4])


def cases_bar(table, web, pair, branches):
    """Whether the branches are just the kinds of the pair's set, and each tree bars its web."""
    if not are_texts(pair, 2) or not all([name in web.places for name in pair]):
        return False
    one, other = web.places[pair[0]], web.places[pair[1]]
    kinds = table.listed(web.sets[one][other])
    if len(kinds) < 2 or not are_branches(branches, kinds):
        return False
    # A pair that was parted has one kind alone, so no tree is walked deeper than there are pairs.
    for kind, tree in branches:
        if not bars_web(table, web.parted(one, other, table.gathered([kind])), tree):
            return False
    return True


def are_branches(branches, kinds):
    """Whether anything at all is a list of tuples (kind, tree) of just these kinds, in this order."""
    if not isinstance(branches, list) or len(branches) != len(kinds):
        return False
    return all([is_branch(branch, kind) for branch, kind in zip(branches, kinds)])


def is_branch(branch, kind):
    return isinstance(branch, tuple) and len(branch) == 2 and isinstance(branch[0], str) and branch[0] == kind
