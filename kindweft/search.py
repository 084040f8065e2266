"""Searches for ways to stand: by steps, and by cases where steps alone do not settle all pairs."""

from kindweft.errors import Broken, NoStanding
from kindweft.sets import places_in
from kindweft.webs import needed_steps, pairs_in_order, web_by, web_of

MOST = 3000


def standing(book, *, most=MOST):
    """("stands", the first standing), or ("barred", a tree that bars the book)."""
    return Search(book, most).first(web_of(book))


def follows(book, one, other, kinds, *, most=MOST):
    """("follows", a tree that bars all other kinds), or ("open", the first standing with another kind)."""
    first, second = book.place_of(one), book.place_of(other)
    table = book.table()
    told = table.ordered(kinds)
    others = [kind for kind in table.kinds() if kind not in told]
    web = web_of(book)
    # Where there are no others this leaves an empty set, which no step is needed for.
    web.leave(first, second, table.gathered(others))
    word, found = Search(book, most).first(web)
    return ("open" if word == "stands" else "follows", found)


def least(book, one, other, *, most=MOST):
    """The kinds that some standing has for the pair, each with the first such standing."""
    first, second = book.place_of(one), book.place_of(other)
    search = Search(book, most)
    web = web_of(book)
    told = []
    for place, kind in enumerate(book.table().kinds()):
        word, found = search.first(web.parted(first, second, 1 << place))
        if word == "stands":
            told.append((kind, found))
    return told


def count(book, *, most=MOST):
    """How many standings there are."""
    walk = Walk(web_of(book), Search(book, most))
    many = 0
    while walk.further() is not None:
        many += 1
    return many


def nth(book, at, *, most=MOST):
    """The standing at a place, from 0 on."""
    if at < 0:
        raise NoStanding(at)
    search = Search(book, most)
    walk = Walk(web_of(book), search)
    web = walk.further()
    passed = 0
    while web is not None and passed < at:
        web = walk.further()
        passed += 1
    if web is None:
        raise NoStanding(at)
    return search.read(web)


def lot(book, *, most=MOST):
    """None where the book can stand; else the numbers of sayings that alone bar it, none of which can be spared."""
    kept = book.sayings()
    if can_stand(book, kept, most):
        return None
    for saying in book.sayings():
        fewer = [row for row in kept if row[0] != saying[0]]
        if not can_stand(book, fewer, most):
            kept = fewer
    return [row[0] for row in kept]


def can_stand(book, sayings, most):
    """Whether the book's things can stand so that these sayings hold."""
    return Search(book, most).first(web_by(book, sayings))[0] == "stands"


class Search:
    """A search over webs of one book that comes to no more cases than most."""

    def __init__(self, book, most):
        self.things_told = book.things()
        self.kinds_told = book.table().kinds()
        self.most = most
        self.looked = 0

    def come_to_case(self):
        """One case more is looked at."""
        if self.looked >= self.most:
            raise Broken(self.most)
        self.looked += 1

    def first(self, web):
        """("stands", the web's first standing), or ("barred", a tree that bars it)."""
        return self.first_behind(web, pairs_in_order(len(web.sets)))

    def first_behind(self, web, pairs):
        """As first, of a web that is closed but for what the sets of these pairs lead to."""
        log = web.close_behind(pairs)
        if web.has_empty():
            return ("barred", ("shut", self.told_steps(shutting_steps(log))))
        pair = unsettled(web)
        if pair is None:
            return ("stands", self.read(web))
        return self.by_cases(web, self.told_steps(log), pair)

    def by_cases(self, web, steps, pair):
        """As first, of a web that these steps closed, by the kinds of a pair."""
        self.come_to_case()
        one, other = pair
        branches = []
        for place in places_in(web.sets[one][other]):
            word, found = self.first_behind(web.parted(one, other, 1 << place), [pair])
            if word == "stands":
                return (word, found)
            branches.append((self.kinds_told[place], found))
        return ("barred", ("cases", steps, self.things_told[one], self.things_told[other], branches))

    def read(self, web):
        """The standing of a web in which each set has one kind."""
        names = self.things_told
        pairs = pairs_in_order(len(names))
        return [(names[x], names[y], self.kinds_told[places_in(web.sets[x][y])[0]]) for x, y in pairs]

    def told_steps(self, steps):
        names = self.things_told
        return [(names[x], names[y], names[z]) for x, y, z in steps]


class Walk:
    """Comes to each standing of a web, in order, one at a time."""

    def __init__(self, web, search):
        self.search = search
        self.waiting = [(web, pairs_in_order(len(web.sets)))]

    def further(self):
        """The web of the next standing, in which each set has one kind; None behind the last."""
        while self.waiting:
            web, pairs = self.waiting.pop()
            web.close_behind(pairs)
            if not web.has_empty():
                pair = unsettled(web)
                if pair is None:
                    return web
                self.part(web, pair)
        return None

    def part(self, web, pair):
        """Lets a web wait for each kind of a pair, the first kind's on top."""
        self.search.come_to_case()
        one, other = pair
        for place in reversed(places_in(web.sets[one][other])):
            self.waiting.append((web.parted(one, other, 1 << place), [pair]))


def unsettled(web):
    """The first pair of things, in order, whose set has more kinds than one; None where there is none."""
    for one, other in pairs_in_order(len(web.sets)):
        held = web.sets[one][other]
        if held & (held - 1):
            return (one, other)
    return None


def shutting_steps(log):
    """Of steps the last of which empties a set, those on which this set hangs."""
    if not log:
        return []
    return needed_steps(log, log[-1][0], log[-1][2])
