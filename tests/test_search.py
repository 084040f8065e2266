"""[12], [14]: standing, follows, least, count and nth against all standings put together in the test."""

import itertools
import random
import unittest

from kindweft.book import Book
from kindweft.built import WORDS, built
from kindweft.errors import NoKind, NoStanding, NoThing
from kindweft.look import bars, fits
from kindweft.search import count, follows, least, nth, standing
from kindweft.tables import Table
from tests.making import (
    book_of, lenient, loosely_said, pentagon, ring, triangle, unwound, waiting_book,
)
from tests.weaving import few_standings, with_saying


def tables():
    """The built tables, rings of sums, and tables of which steps alone do not tell all."""
    made = [built(word) for word in WORDS] + [Table(*ring(size)) for size in (1, 2, 3, 5, 8, 13)]
    return made + [Table(*pentagon()), Table(*triangle()), Table(*lenient(3)), Table(*lenient(6))]


def books(seed, things=range(7), rounds=2, most=3):
    """Books over each table with so many things, from free ones to such as cannot stand, that stand in few ways."""
    chance = random.Random(seed)
    for table in tables():
        for size in things:
            for sayings in range(rounds):
                said = chance.randint(0, 2) + sayings * size + (size * (size - 1) // 2 if size > 3 else 0)
                book = loosely_said(table, chance, size, said, most)
                if few_standings(book) is not None:
                    yield book


def six_unlike():
    """A book of which steps alone tell nothing, and yet it cannot stand."""
    told = [(one, other, "red blue") for one, other in itertools.combinations("abcdef", 2)]
    return book_of(Table(*pentagon()), "abcdef", told)


def both_ways(book, found):
    """The kinds of a standing for each two things, each way about and of each with itself."""
    table = book.table()
    kinds = {(name, name): table.same for name in book.things()}
    for one, other, kind in found:
        kinds[one, other] = kind
        kinds[other, one] = table.back(kind)
    return kinds


class Standing(unittest.TestCase):
    def test_no_things_and_one(self):
        for table in tables():
            self.assertEqual(standing(Book(table)), ("stands", []))
            self.assertEqual(standing(book_of(table, "a")), ("stands", []))

    def test_two_things(self):
        table = built("stretches")
        self.assertEqual(standing(book_of(table, "ba")), ("stands", [("b", "a", "before")]))
        told = book_of(table, "ba", [("a", "b", "begins overlaps met"), ("b", "a", "overlaid begun after")])
        # Turned about the kinds of the first saying are begun, overlaid, meets: the table's first of them goes.
        self.assertEqual(standing(told), ("stands", [("b", "a", "begun")]))
        told.say("b", "a", ["meets", "after"])
        self.assertEqual(standing(told), ("barred", ("shut", [])))

    def test_free_books(self):
        for word, kind in (("moments", "ahead"), ("stretches", "before"), ("courses", "nw"), ("branches", "up")):
            for size in range(7):
                things = "fbdaec"[:size]
                told = [(one, other, kind) for one, other in itertools.combinations(things, 2)]
                self.assertEqual(standing(book_of(built(word), things)), ("stands", told))

    def test_the_first_one_in_order(self):
        stands, barred = 0, 0
        for book in books(1):
            told = few_standings(book)
            word, found = standing(book)
            if told:
                stands += 1
                self.assertEqual((word, found), ("stands", told[0]))
                self.assertTrue(fits(book, found))
            else:
                barred += 1
                self.assertEqual(word, "barred")
                self.assertTrue(bars(book, found))
        self.assertGreater(stands, 80)
        self.assertGreater(barred, 30)

    def test_the_order_is_by_pairs_not_by_things(self):
        # The pairs are ab, ac, bc: a standing with an early kind for bc comes behind one with an early kind for ac.
        book = book_of(built("moments"), "abc", [("a", "b", "same behind"), ("b", "c", "ahead behind")])
        told = [tuple(row[2] for row in nth(book, at)) for at in range(count(book))]
        self.assertEqual(told, [
            ("same", "ahead", "ahead"), ("same", "behind", "behind"), ("behind", "ahead", "ahead"),
            ("behind", "same", "ahead"), ("behind", "behind", "ahead"), ("behind", "behind", "behind")])

    def test_a_book_of_which_steps_tell_nothing(self):
        word, tree = standing(six_unlike())
        self.assertEqual((word, tree[0]), ("barred", "cases"))
        self.assertTrue(bars(six_unlike(), tree))
        book = six_unlike()
        book.strike(1)
        self.assertEqual(standing(book)[0], "stands")

    def test_a_thing_with_itself(self):
        table = built("moments")
        for things in ("a", "ab", "abc"):
            book = book_of(table, things, [("a", "a", "same ahead")])
            self.assertEqual(standing(book)[0], "stands")
            book.say("a", "a", ["ahead", "behind"])
            self.assertEqual(standing(book), ("barred", ("shut", [])))
            self.assertTrue(bars(book, ("shut", [])))

    def test_trees_are_told_anew(self):
        torn = book_of(built("moments"), "abc", [("a", "b", "ahead"), ("b", "c", "ahead"), ("c", "a", "ahead")])
        for book in (torn, six_unlike()):
            word, tree = standing(book)
            kept = repr(tree)
            spoil(tree)
            self.assertNotEqual(repr(tree), kept)
            self.assertEqual(repr(standing(book)[1]), kept)

    def test_standings_are_told_anew(self):
        book = book_of(built("moments"), "abc")
        for ask in (
            lambda: standing(book)[1], lambda: follows(book, "a", "b", ["ahead"])[1], lambda: nth(book, 3),
            lambda: least(book, "a", "b")[0][1], lambda: least(book, "a", "b"),
        ):
            told = ask()
            kept = list(told)
            told.clear()
            self.assertEqual(ask(), kept)


def spoil(tree):
    """Changes each list within a tree."""
    if tree[0] == "cases":
        for kind, branch in tree[4]:
            spoil(branch)
        tree[4].pop()
    tree[1].append(("a", "a", "a"))


class Follows(unittest.TestCase):
    def check(self, book, told, one, other, kinds):
        """Asked for one pair and set of kinds, beside all standings in order."""
        table = book.table()
        others = [kind for kind in table.kinds() if kind not in kinds]
        word, found = follows(book, one, other, kinds)
        against = next((way for way in told if both_ways(book, way)[one, other] in others), None)
        if against is not None:
            self.assertEqual((word, found), ("open", against))
            return "open"
        self.assertEqual(word, "follows")
        if not others:
            self.assertEqual(found, ("shut", []))
            return "none"
        self.assertTrue(bars(with_saying(book, one, other, others), found))
        return "follows"

    def test_each_pair_and_any_kinds(self):
        chance = random.Random(2)
        seen = []
        for book in books(3, range(1, 7), rounds=2):
            told = few_standings(book)
            kinds = book.table().kinds()
            for one, other in itertools.product(book.things(), repeat=2):
                held = sorted({both_ways(book, way)[one, other] for way in told})
                asked = chance.choice([held, held[1:], chance.sample(kinds, chance.randint(0, len(kinds)))])
                chance.shuffle(asked)
                seen.append(self.check(book, told, one, other, asked + asked[:1]))
        for word in ("open", "follows", "none"):
            self.assertGreater(seen.count(word), 30, word)

    def test_each_set_of_kinds(self):
        book = book_of(built("moments"), "bca", [("a", "b", "ahead same"), ("b", "c", "ahead")])
        told = few_standings(book)
        kinds = book.table().kinds()
        for size in range(4):
            for asked in itertools.permutations(kinds, size):
                for one, other in itertools.product("abc", repeat=2):
                    self.check(book, told, one, other, list(asked) + list(asked))

    def test_no_kinds_and_all(self):
        book = book_of(built("moments"), "ab")
        every = ["behind", "ahead", "same"]
        self.assertEqual(follows(book, "a", "b", []), ("open", [("a", "b", "ahead")]))
        self.assertEqual(follows(book, "a", "b", every), ("follows", ("shut", [])))
        self.assertEqual(follows(book, "a", "a", every), ("follows", ("shut", [])))
        torn = book_of(built("moments"), "ab", [("a", "b", "ahead"), ("b", "a", "ahead")])
        self.assertEqual(follows(torn, "a", "b", every), ("follows", ("shut", [])))
        word, tree = follows(torn, "a", "b", [])
        self.assertEqual(word, "follows")
        self.assertTrue(bars(with_saying(torn, "a", "b", every), tree))
        self.assertTrue(bars(torn, tree))

    def test_the_shut_tree_is_told_anew(self):
        book = book_of(built("moments"), "ab")
        follows(book, "a", "b", book.table().kinds())[1][1].append("odd")
        self.assertEqual(follows(book, "a", "b", book.table().kinds()), ("follows", ("shut", [])))

    def test_of_a_thing_with_itself(self):
        book = book_of(built("moments"), "ab")
        self.assertEqual(follows(book, "a", "a", ["ahead", "same"]), ("follows", ("shut", [])))
        self.assertEqual(follows(book, "a", "a", ["ahead"]), ("open", [("a", "b", "ahead")]))
        self.assertEqual(follows(book, "a", "a", []), ("open", [("a", "b", "ahead")]))

    def test_a_book_with_forty_sayings(self):
        book = book_of(built("moments"), "abc", [("a", "b", "ahead"), ("b", "c", "ahead")] * 20)
        self.assertEqual(len(book), 40)
        self.assertEqual(follows(book, "c", "a", ["behind"])[0], "follows")
        self.assertEqual(follows(book, "c", "a", ["ahead"])[0], "open")
        self.assertEqual(len(book), 40)

    def test_what_follows_adds_nothing_when_it_is_said(self):
        for book in books(4, range(2, 5), rounds=2):
            told = few_standings(book)
            for one, other in itertools.permutations(book.things(), 2):
                kinds = [kind for kind, found in least(book, one, other)]
                self.assertEqual(follows(book, one, other, kinds)[0], "follows")
                if kinds:
                    self.assertEqual(few_standings(with_saying(book, one, other, kinds)), told)

    def test_no_thing_then_no_kind(self):
        book = book_of(built("moments"), "ab")
        for one, other, kinds, name in (
            ("x", "y", ["odd"], "x"), ("a", "y", ["odd"], "y"), ("x", "b", ["ahead"], "x"), ("", "b", [], ""),
            ("ahead", "b", [], "ahead"), ("A", "b", [], "A"),
        ):
            with self.assertRaises(NoThing) as caught:
                follows(book, one, other, kinds)
            self.assertEqual((caught.exception.name, caught.exception.word), (name, "NoThing"))
        for one, other, kinds, name in (
            ("a", "b", ["odd", "even"], "odd"), ("a", "b", ["ahead", "same", "behind", "Ahead"], "Ahead"),
            ("a", "a", ["same", ""], ""), ("b", "a", ["a", "ahead"], "a"),
        ):
            kept = list(kinds)
            with self.assertRaises(NoKind) as caught:
                follows(book, one, other, kinds, most=0)
            self.assertEqual((caught.exception.name, caught.exception.word), (name, "NoKind"))
            self.assertEqual(kinds, kept)

    def test_kinds_stay_and_are_not_kept(self):
        book = book_of(built("moments"), "abc", [("a", "b", "ahead")])
        kinds = ["behind", "ahead", "behind"]
        told = follows(book, "a", "c", kinds)
        self.assertEqual(kinds, ["behind", "ahead", "behind"])
        kept = repr(told)
        kinds.clear()
        self.assertEqual(repr(told), kept)
        self.assertEqual(follows(book, "a", "c", ["ahead", "behind"]), told)


class Least(unittest.TestCase):
    def test_each_pair(self):
        several = 0
        for book in books(5, range(1, 7), rounds=2):
            told = few_standings(book)
            for one, other in itertools.product(book.things(), repeat=2):
                expected = []
                for kind in book.table().kinds():
                    first = next((way for way in told if both_ways(book, way)[one, other] == kind), None)
                    if first is not None:
                        expected.append((kind, first))
                several += len(expected) > 1
                self.assertEqual(least(book, one, other), expected)
        self.assertGreater(several, 100)

    def test_of_a_thing_with_itself(self):
        book = book_of(built("moments"), "ab", [("b", "a", "ahead")])
        self.assertEqual(least(book, "b", "b"), [("same", [("a", "b", "behind")])])
        self.assertEqual(least(book_of(built("parts"), "b"), "b", "b"), [("same", [])])

    def test_of_a_book_that_cannot_stand(self):
        torn = book_of(built("moments"), "ab", [("a", "b", "ahead"), ("b", "a", "ahead")])
        itself = book_of(built("moments"), "ab", [("a", "a", "ahead")])
        for book in (torn, itself, six_unlike()):
            for one, other in itertools.product("ab", repeat=2):
                self.assertEqual(least(book, one, other), [])

    def test_narrower_than_closed(self):
        # Steps leave both colours for each pair of five things, but the last pair is settled by the others.
        told = [(one, other, "red blue") for one, other in itertools.combinations("abcde", 2)]
        book = book_of(Table(*pentagon()), "abcde", told + [("a", "b", "red"), ("b", "c", "red"), ("c", "d", "red")])
        self.assertEqual(book.closed("d", "e"), ["red", "blue"])
        self.assertEqual([kind for kind, found in least(book, "d", "e")], ["red"])

    def test_no_thing(self):
        book = book_of(built("moments"), "ab")
        for one, other, name in (("x", "y", "x"), ("a", "y", "y"), ("x", "a", "x"), ("same", "same", "same")):
            for most in (0, 3000):
                with self.assertRaises(NoThing) as caught:
                    least(book, one, other, most=most)
                self.assertEqual(caught.exception.name, name)


class CountAndNth(unittest.TestCase):
    def test_all_standings_at_each_place(self):
        many = 0
        for book in books(6, range(6), rounds=2):
            told = few_standings(book, 300)
            if told is None:
                continue
            self.assertEqual(count(book), len(told))
            self.assertEqual([nth(book, at) for at in range(len(told))], told)
            many += len(told) > 1
            for at in (len(told), len(told) + 7, 10 ** 30 - 1, -1, -7, -(10 ** 30 - 1)):
                with self.assertRaises(NoStanding) as caught:
                    nth(book, at)
                self.assertEqual((caught.exception.at, caught.exception.word), (at, "NoStanding"))
        self.assertGreater(many, 40)

    def test_free_books(self):
        for word, counts in (
            ("moments", [1, 1, 3, 13, 75, 541]), ("stretches", [1, 1, 13, 409]), ("courses", [1, 1, 9, 169]),
        ):
            for size, many in enumerate(counts):
                self.assertEqual(count(book_of(built(word), "abcdef"[:size])), many)

    def test_below_nought_ahead_of_all_else(self):
        free = book_of(built("moments"), "abc")
        torn = book_of(built("moments"), "ab", [("a", "b", "ahead"), ("b", "a", "ahead")])
        for book in (free, torn, Book(built("moments"))):
            with self.assertRaises(NoStanding) as caught:
                nth(book, -1, most=0)
            self.assertEqual(caught.exception.at, -1)

    def test_the_empty_standing(self):
        for things in ("", "a"):
            book = book_of(built("moments"), things)
            self.assertEqual(nth(book, 0), [])
            self.assertEqual(nth(book, 0, most=0), [])
            with self.assertRaises(NoStanding):
                nth(book, 1)

    def test_of_a_book_that_cannot_stand(self):
        for book in (six_unlike(), book_of(built("moments"), "a", [("a", "a", "ahead")])):
            self.assertEqual(count(book), 0)
            with self.assertRaises(NoStanding) as caught:
                nth(book, 0)
            self.assertEqual(caught.exception.at, 0)


class Asking(unittest.TestCase):
    """What only asks changes nothing, and what is asked by name is told as by place."""

    def test_books_stay(self):
        book = waiting_book()
        kept = unwound(book)
        for ask in (
            lambda: standing(book), lambda: follows(book, "a", "d", ["ahead"]), lambda: follows(book, "a", "d", []),
            lambda: least(book, "a", "d"), lambda: count(book), lambda: nth(book, 2),
        ):
            told = ask()
            self.assertEqual(unwound(book), kept)
            self.assertEqual(ask(), told)

    def test_refused_asking(self):
        book = waiting_book()
        kept = unwound(book)
        for error, ask in (
            (NoThing, lambda: follows(book, "z", "a", [])), (NoKind, lambda: follows(book, "a", "b", ["odd"])),
            (NoThing, lambda: least(book, "a", "z")), (NoStanding, lambda: nth(book, -1)),
            (NoStanding, lambda: nth(book, 10 ** 9)),
        ):
            with self.assertRaises(error):
                ask()
            self.assertEqual(unwound(book), kept)

    def test_by_names(self):
        book = waiting_book()
        self.assertEqual(standing(book=book, most=3000), standing(book))
        self.assertEqual(
            follows(kinds=["ahead"], other="b", one="a", book=book, most=3000), follows(book, "a", "b", ["ahead"]))
        self.assertEqual(least(other="d", one="b", book=book), least(book, "b", "d"))
        self.assertEqual(count(book=book), count(book))
        self.assertEqual(nth(at=1, book=book), nth(book, 1))

    def test_most_by_its_name_alone(self):
        book = book_of(built("moments"), "ab")
        for ask in (
            lambda: standing(book, 9), lambda: follows(book, "a", "b", [], 9), lambda: least(book, "a", "b", 9),
            lambda: count(book, 9), lambda: nth(book, 0, 9),
        ):
            with self.assertRaises(TypeError):
                ask()


if __name__ == "__main__":
    unittest.main()
