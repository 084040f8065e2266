"""Webs, standings and trees written anew for the tests, over sets of names, as plainly as the document tells them."""

import itertools


def plain_web(book):
    """What the sayings alone leave: a set of names for each two things, both ways about."""
    table, things = book.table(), book.things()
    web = {(x, y): {table.same} if x == y else set(table.kinds()) for x in things for y in things}
    for number, one, other, kinds in book.sayings():
        web[one, other] &= set(kinds)
        web[other, one] &= set(table.backs(kinds))
    return web


def take(table, web, step):
    """Takes a step; whether anything changed."""
    one, through, other = step
    allowed = {kind for x in web[one, through] for y in web[through, other] for kind in table.step(x, y)}
    left = web[one, other] & allowed
    changed = left != web[one, other]
    web[one, other] = left
    web[other, one] = {table.back(kind) for kind in left}
    return changed


def closed_web(book, chance):
    """The closed web by steps in any order till nothing changes."""
    table, web = book.table(), plain_web(book)
    steps = list(itertools.permutations(book.things(), 3))
    changed = True
    while changed and all(web.values()):
        chance.shuffle(steps)
        changed = any([take(table, web, step) for step in steps])
    if not all(web.values()):
        web = {pair: set() for pair in web}
    return web


def in_order(table, kinds):
    return [kind for kind in table.kinds() if kind in kinds]


def holds(table, kinds, things):
    """Whether each three of these things stand as the steps let them; kinds has each two both ways about."""
    return all(kinds[x, z] in table.step(kinds[x, y], kinds[y, z]) for x, y, z in itertools.permutations(things, 3))


def standings(book, chance=None):
    """Each standing, put together thing by thing (kinds in any order where there is chance)."""
    table, things, web = book.table(), book.things(), plain_web(book)
    if not all(web.values()):
        return
    pairs = sorted(itertools.combinations(things, 2), key=lambda pair: things.index(pair[1]))

    def further(at, kinds):
        if at == len(pairs):
            yield [(one, other, kinds[one, other]) for one, other in itertools.combinations(things, 2)]
            return
        one, other = pairs[at]
        told = in_order(table, web[one, other])
        if chance is not None:
            chance.shuffle(told)
        for kind in told:
            kinds[one, other], kinds[other, one] = kind, table.back(kind)
            known = [x for x in things if (x, one) in kinds and (x, other) in kinds]
            if all(holds(table, kinds, (x, one, other)) for x in known):
                yield from further(at + 1, dict(kinds))

    yield from further(0, {})


def settle(table, things, web):
    """The steps that close a web, each that changed something, up to one that empties a set; they are taken."""
    steps = []
    changed = True
    while changed:
        changed = False
        for step in itertools.permutations(things, 3):
            if take(table, web, step):
                steps.append(step)
                changed = True
                if not web[step[0], step[2]]:
                    return steps
    return steps


def barring_tree(book):
    """A tree that bars a book, or None where it can stand."""
    return tree_of(book.table(), book.things(), plain_web(book))


def tree_of(table, things, web):
    if not all(web.values()):
        return ("shut", [])
    steps = settle(table, things, web)
    if not all(web.values()):
        return ("shut", steps)
    for one, other in itertools.combinations(things, 2):
        if len(web[one, other]) > 1:
            return cases_of(table, things, web, steps, one, other)
    return None


def cases_of(table, things, web, steps, one, other):
    branches = []
    for kind in in_order(table, web[one, other]):
        tree = tree_of(table, things, {**web, (one, other): {kind}, (other, one): {table.back(kind)}})
        if tree is None:
            return None
        branches.append((kind, tree))
    return ("cases", steps, one, other, branches)


def in_the_books_order(book, told):
    """Standings by their kinds, the first pair's first, kinds as in the table."""
    kinds = book.table().kinds()
    return sorted(told, key=lambda standing: [kinds.index(row[2]) for row in standing])


def few_standings(book, most=3000):
    """All standings in order, or None where there are more than so many."""
    found = list(itertools.islice(standings(book), most + 1))
    return in_the_books_order(book, found) if len(found) <= most else None


def can_stand(book):
    return next(standings(book), None) is not None


def plain_lot(book):
    """What lot tells, by leaving sayings out of a twin."""
    if can_stand(book):
        return None
    left = book.twin()
    for number in [row[0] for row in book.sayings()]:
        fewer = left.twin()
        fewer.strike(number)
        if not can_stand(fewer):
            left = fewer
    return [row[0] for row in left.sayings()]


def steps_settle(book):
    """Whether steps alone tell that a book cannot stand, or leave but one kind for each pair."""
    web = plain_web(book)
    if all(web.values()):
        settle(book.table(), book.things(), web)
    return not all(web.values()) or all(len(held) == 1 for held in web.values())


def with_saying(book, one, other, kinds):
    """A twin with a further saying."""
    twin = book.twin()
    twin.say(one, other, kinds)
    return twin
