"""[17]: books led over to other tables, and joined."""

import itertools
import random
import unittest

from kindweft.book import Book
from kindweft.built import WORDS, built
from kindweft.errors import BadKinds, Full, NoKind, NothingBack, Unlike
from kindweft.lead import coarser_book, joined, paired_book, turned_book
from kindweft.look import fits
from kindweft.made import coarser, paired, renamed, turned
from kindweft.search import count, nth, standing
from kindweft.tables import Table
from tests.making import book_of, loosely_said, pentagon, ring, shown, triangle, unwound, waiting_book
from tests.weaving import few_standings


def small_tables():
    return [built("moments"), built("branches"), Table(*ring(2)), Table(*ring(3)), Table(*pentagon())]


class Checks(unittest.TestCase):
    def check_new(self, book):
        """Sayings are numbered from 1 on, and there is nothing to undo or redo."""
        self.assertIsInstance(book, Book)
        self.assertEqual([row[0] for row in book.sayings()], list(range(1, len(book) + 1)))
        self.assertEqual(book.coming(), len(book) + 1)
        for turn in (book.undo, book.redo):
            with self.assertRaises(NothingBack):
                turn()
        if len(book) < 40 and book.things():
            one = book.things()[0]
            self.assertEqual(book.twin().say(one, one, [book.table().same]), len(book) + 1)

    def check_refused(self, error, call, *books):
        """The refusal, behind which the books are as they were."""
        kept = [unwound(book) for book in books]
        with self.assertRaises(error) as caught:
            call()
        self.assertEqual(caught.exception.word, error.__name__)
        self.assertEqual([unwound(book) for book in books], kept)
        return caught.exception


def told(book):
    """The sayings without their numbers."""
    return [row[1:] for row in book.sayings()]


class PairedBook(Checks):
    def test_sayings(self):
        one = book_of(built("moments"), "ab", [("a", "b", "ahead same"), ("b", "b", "same")])
        other = book_of(Table(*ring(2)), "ab", [("b", "a", "kindb")])
        table = paired(one.table(), other.table())
        book = paired_book(one, other, table)
        self.assertEqual(book.table(), table)
        self.assertEqual(book.things(), ["a", "b"])
        self.assertEqual(book.sayings(), [
            (1, "a", "b", ["aa", "ab", "ba", "bb"]), (2, "b", "b", ["ba", "bb"]), (3, "b", "a", ["ab", "bb", "cb"])])
        self.check_new(book)

    def test_by_names_told(self):
        one = book_of(built("moments"), "ab", [("a", "b", "behind")])
        other = book_of(built("moments"), "ab", [("a", "b", "ahead same")])
        book = paired_book(one, other, built("courses"))
        self.assertEqual(told(book), [("a", "b", ["sw", "s", "se"]), ("a", "b", ["nw", "n", "w", "same", "sw", "s"])])

    def test_stands_just_where_both_do(self):
        chance = random.Random(21)
        seen = []
        for first, second in itertools.product(small_tables(), repeat=2):
            if len(first) * len(second) > 13:
                continue
            table = paired(first, second)
            for things in range(4):
                one = loosely_said(first, chance, things, chance.randint(0, 4), 3)
                other = loosely_said(second, chance, things, chance.randint(0, 4), 3)
                book = paired_book(one, other, table)
                seen.append(count(book))
                self.assertEqual(count(book), count(one) * count(other))
                self.assertEqual(standing(book)[0] == "stands", count(one) > 0 < count(other))
                self.check_new(book)
        self.assertGreater(seen.count(0), 5)
        self.assertGreater(len([many for many in seen if many > 1]), 20)

    def test_each_pair_of_standings(self):
        one = book_of(built("moments"), "abc", [("a", "b", "ahead same")])
        other = book_of(Table(*ring(3)), "abc", [("b", "c", "kindb kindc")])
        book = paired_book(one, other, paired(one.table(), other.table()))
        firsts, seconds = one.table().kinds(), other.table().kinds()
        expected = []
        for x, y in itertools.product(few_standings(one), few_standings(other)):
            expected.append([
                (*row[:2], "abc"[firsts.index(row[2])] + "abc"[seconds.index(twin[2])]) for row, twin in zip(x, y)])
        self.assertEqual(sorted(expected), sorted(few_standings(book)))

    def test_a_table_of_one_kind(self):
        one = book_of(built("stretches"), "ab", [("a", "b", "before met")])
        other = book_of(Table(*ring(1)), "ab", [("b", "a", "kinda")])
        book = paired_book(one, other, paired(one.table(), other.table()))
        self.assertEqual(told(book), [("a", "b", ["aa", "la"]), ("b", "a", book.table().kinds())])
        turn = paired_book(other, one, paired(other.table(), one.table()))
        self.assertEqual(told(turn), [("b", "a", turn.table().kinds()), ("a", "b", ["aa", "al"])])

    def test_unlike(self):
        table, ground = paired(built("moments"), built("moments")), built("moments")
        one = book_of(ground, "ab", [("a", "b", "ahead")])
        for things in ("", "a", "ba", "abc", "ac"):
            other = book_of(ground, things)
            self.check_refused(Unlike, lambda: paired_book(one, other, table), one, other)
        other = book_of(ground, "ab")
        for wrong in (built("moments"), built("parts"), Table(*ring(8)), Table(*ring(10)), Table(*ring(1))):
            self.check_refused(Unlike, lambda: paired_book(one, other, wrong), one, other)
        self.assertEqual(len(paired_book(one, other, table)), 1)
        self.assertEqual(len(paired_book(Book(ground), Book(ground), table)), 0)

    def test_full(self):
        ground = built("moments")
        table = paired(ground, ground)
        one = book_of(ground, "ab", [("a", "b", "ahead")] * 20)
        other = book_of(ground, "ab", [("b", "a", "ahead same")] * 20)
        book = paired_book(one, other, table)
        self.assertEqual(len(book), 40)
        self.check_new(book)
        other.say("a", "a", ["same"])
        self.check_refused(Full, lambda: paired_book(one, other, table), one, other)
        self.check_refused(Full, lambda: paired_book(other, one, table), one, other)

    def test_unlike_ahead_of_full(self):
        ground = built("moments")
        one = book_of(ground, "ab", [("a", "b", "ahead")] * 40)
        for things in ("ba", "abc"):
            other = book_of(ground, things, [("a", "b", "ahead")])
            self.check_refused(Unlike, lambda: paired_book(one, other, paired(ground, ground)), one, other)
        other = book_of(ground, "ab", [("a", "b", "ahead")])
        self.check_refused(Unlike, lambda: paired_book(one, other, ground), one, other)
        self.check_refused(Full, lambda: paired_book(one, other, paired(ground, ground)), one, other)

    def test_books_with_gaps_and_deeds_taken_back(self):
        one, other = waiting_book(), waiting_book()
        other.undo()
        kept = [unwound(one), unwound(other)]
        book = paired_book(one=one, other=other, table=built("courses"))
        self.assertEqual([unwound(one), unwound(other)], kept)
        self.assertEqual(book.things(), one.things())
        self.assertEqual([row[1:3] for row in book.sayings()], [row[1:3] for row in one.sayings() + other.sayings()])
        self.check_new(book)
        book.drop("a")
        self.assertEqual([unwound(one), unwound(other)], kept)


class TurnedBook(Checks):
    def test_sayings_and_table(self):
        book = waiting_book()
        kept = unwound(book)
        turn = turned_book(book=book)
        self.assertEqual(turn.table(), turned(book.table()))
        self.assertEqual(turn.things(), book.things())
        self.assertEqual(told(turn), [(other, one, kinds) for number, one, other, kinds in book.sayings()])
        self.check_new(turn)
        self.assertEqual(unwound(book), kept)
        turn.strike(1)
        self.assertEqual(unwound(book), kept)

    def test_standings_turned_about(self):
        chance = random.Random(22)
        seen = []
        for table in [Table(*triangle()), Table(*triangle())] + small_tables():
            for things in range(5):
                book = loosely_said(table, chance, things, 2 * things, 3)
                if things > 2 and count(book, most=10 ** 6) > 500:
                    continue
                turn = turned_book(book)
                self.assertEqual(count(turn), count(book))
                seen.append(count(book))
                expected = [[(x, y, table.back(kind)) for x, y, kind in found] for found in few_standings(book)]
                self.assertEqual(sorted(expected), sorted(few_standings(turn)))
        self.assertGreater(seen.count(0), 4)
        self.assertGreater(len([many for many in seen if many > 1]), 8)

    def test_twice_is_the_book(self):
        book = book_of(Table(*triangle()), "abc", [("a", "b", "left flipa"), ("c", "a", "flipb"), ("b", "b", "same")])
        again = turned_book(turned_book(book))
        self.assertEqual(shown(again), shown(book))
        self.check_new(again)

    def test_small_and_full_books(self):
        self.assertEqual(shown(turned_book(Book(built("parts")))), shown(Book(turned(built("parts")))))
        full = book_of(built("moments"), "abcdef", [("a", "f", "ahead")] * 40)
        self.assertEqual(told(turned_book(full)), [("f", "a", ["ahead"])] * 40)
        self.check_new(turned_book(full))


BRANCHES_DRAWN = [["down", "up"], ["apart"], ["same"]]


class CoarserBook(Checks):
    def table(self):
        return coarser(built("branches"), BRANCHES_DRAWN, ["line", "apart", "same"])

    def test_sayings(self):
        book = book_of(built("branches"), "abc", [
            ("a", "b", "up"), ("b", "c", "down apart"), ("c", "c", "same up"), ("c", "a", "up same down apart")])
        kept = unwound(book)
        drawn = coarser_book(book, self.table(), BRANCHES_DRAWN)
        self.assertEqual(drawn.table(), self.table())
        self.assertEqual(drawn.things(), ["a", "b", "c"])
        self.assertEqual(drawn.sayings(), [
            (1, "a", "b", ["line"]), (2, "b", "c", ["line", "apart"]), (3, "c", "c", ["line", "same"]),
            (4, "c", "a", ["line", "apart", "same"])])
        self.check_new(drawn)
        self.assertEqual(unwound(book), kept)

    def test_each_standing_led_over_fits(self):
        chance = random.Random(23)
        courses = [["w", "e"], ["same"], ["ne", "sw"], ["nw", "s"], ["se", "n"]]
        cases = [
            (built("branches"), BRANCHES_DRAWN), (built("moments"), [["same"], ["behind", "ahead"]]),
            (built("courses"), courses),
            (Table(*triangle()), [["left", "right"], ["same"], ["flipa", "flipb", "flipc"]]),
        ]
        seen = 0
        for ground, blocks in cases:
            table = coarser(ground, blocks, ["u", "v", "w", "x", "y"][:len(blocks)])
            block_of = {kind: name for block, name in zip(blocks, table.kinds()) for kind in block}
            for things in [1, 2, 3, 4] * 4:
                book = loosely_said(ground, chance, things, things, 4)
                drawn = coarser_book(book, table, blocks)
                for at in range(min(40, count(book, most=10 ** 6))):
                    found = nth(book, at, most=10 ** 6)
                    self.assertTrue(fits(drawn, [(x, y, block_of[kind]) for x, y, kind in found]))
                    seen += 1
        self.assertGreater(seen, 100)

    def test_a_kind_twice_in_a_block(self):
        book = book_of(built("branches"), "ab", [("a", "b", "up apart")])
        doubled = [["down", "up", "down"], ["apart", "apart"], ["same"] * 3]
        self.assertEqual(shown(coarser_book(book, self.table(), doubled)),
                         shown(coarser_book(book, self.table(), BRANCHES_DRAWN)))

    def test_no_kind(self):
        book = book_of(built("branches"), "ab", [("a", "b", "up")])
        for blocks, name in (
            ([["same"], ["up", "odd", "even"], ["strange"]], "odd"), ([["same"], ["line"]], "line"), ([[""]], ""),
            ([["up"], ["up"], [], ["Up"]], "Up"),
        ):
            error = self.check_refused(NoKind, lambda: coarser_book(book, self.table(), blocks), book)
            self.assertEqual(error.name, name)

    def test_bad_kinds(self):
        book = book_of(built("branches"), "ab", [("a", "b", "up")])
        for blocks in (
            [],
            [["same"], ["up", "down", "apart"]],
            [["same"], ["up"], ["down"], ["apart"]],
            [["same"], ["up", "down"], ["apart"], []],
            [["same"], ["up", "down"], []],
            [["same"], ["up", "down"], ["up", "down"]],
            [["same"], ["up", "down", "apart"], ["apart"]],
            [["same", "apart"], ["up"], ["down"]],
            [["same"], ["up", "apart"], ["down"]],
            [["same"], ["up"], ["down", "apart"]],
            [["same"], ["same", "up", "down"], ["apart"]],
        ):
            self.check_refused(BadKinds, lambda: coarser_book(book, self.table(), blocks), book)

    def test_as_many_as_the_tables_kinds(self):
        book = book_of(built("branches"), "ab", [("a", "b", "up")])
        for size in (1, 2, 4, 13):
            self.check_refused(BadKinds, lambda: coarser_book(book, Table(*ring(size)), BRANCHES_DRAWN), book)

    def test_each_kind_alone(self):
        for word in WORDS:
            chance = random.Random(24)
            book = loosely_said(built(word), chance, 4, 5, 3)
            kinds = book.table().kinds()
            alone = coarser_book(book, book.table(), [[kind] for kind in kinds])
            self.assertEqual(told(alone), told(book))
            order = chance.sample(kinds, len(kinds))
            other = coarser_book(book, coarser(book.table(), [[kind] for kind in order], order), [[x] for x in order])
            self.assertEqual([row[:2] for row in told(other)], [row[:2] for row in told(book)])
            for row, twin in zip(told(book), told(other)):
                self.assertEqual(twin[2], [kind for kind in order if kind in row[2]])

    def test_blocks_stay_and_are_not_kept(self):
        book = book_of(built("branches"), "ab", [("a", "b", "up")])
        blocks = [["down", "up", "up"], ["apart"], ["same"]]
        drawn = coarser_book(table=self.table(), blocks=blocks, book=book)
        self.assertEqual(blocks, [["down", "up", "up"], ["apart"], ["same"]])
        for block in blocks:
            block.clear()
        blocks.clear()
        self.assertEqual(drawn.sayings(), [(1, "a", "b", ["line"])])
        drawn.say("b", "a", ["same"])
        self.assertEqual(drawn.closed("a", "b"), [])

    def test_books_with_gaps_and_deeds_taken_back(self):
        book = waiting_book()
        kept = unwound(book)
        blocks = [["same"], ["ahead", "behind"]]
        drawn = coarser_book(book, coarser(book.table(), blocks, ["same", "other"]), blocks)
        self.check_new(drawn)
        self.assertEqual([row[1:3] for row in drawn.sayings()], [row[1:3] for row in book.sayings()])
        self.assertEqual(drawn.things(), book.things())
        drawn.drop("b")
        self.assertEqual(unwound(book), kept)


class Joined(Checks):
    def test_things_and_sayings(self):
        one = book_of(built("moments"), "cab", [("a", "b", "ahead"), ("b", "c", "same behind")])
        other = book_of(built("moments"), "bdae", [("d", "e", "same"), ("a", "b", "ahead same")])
        book = joined(one, other)
        self.assertEqual(book.table(), built("moments"))
        self.assertEqual(book.things(), ["c", "a", "b", "d", "e"])
        self.assertEqual(book.sayings(), [
            (1, "a", "b", ["ahead"]), (2, "b", "c", ["same", "behind"]), (3, "d", "e", ["same"]),
            (4, "a", "b", ["ahead", "same"])])
        self.check_new(book)
        turn = joined(one=other, other=one)
        self.assertEqual(turn.things(), ["b", "d", "a", "e", "c"])
        self.assertEqual(told(turn), told(other) + told(one))

    def test_with_an_empty_book_and_with_itself(self):
        book = waiting_book()
        empty = Book(built("moments"))
        for both in (joined(book, empty), joined(empty, book)):
            self.assertEqual((both.things(), told(both)), (book.things(), told(book)))
            self.check_new(both)
        twice = joined(book, book)
        self.assertEqual((twice.things(), told(twice)), (book.things(), told(book) * 2))
        self.assertEqual(shown(joined(empty, empty)), shown(empty))

    def test_unlike(self):
        one = book_of(built("moments"), "ab", [("a", "b", "ahead")])
        for table in (
            built("parts"), renamed(built("moments"), ["ahead", "same", "after"]),
            renamed(built("moments"), ["behind", "same", "ahead"]), Table(*pentagon()), Table(*ring(3)),
        ):
            other = book_of(table, "ab")
            self.check_refused(Unlike, lambda: joined(one, other), one, other)
            self.check_refused(Unlike, lambda: joined(other, one), one, other)
            if table != turned(table):
                self.check_refused(Unlike, lambda: joined(other, book_of(turned(table), "ab")), other)

    def test_full_of_things(self):
        one = book_of(built("moments"), "abcd")
        self.assertEqual(joined(one, book_of(built("moments"), "fae")).things(), list("abcdfe"))
        other = book_of(built("moments"), "efg")
        self.check_refused(Full, lambda: joined(one, other), one, other)
        self.check_refused(Full, lambda: joined(other, one), one, other)

    def test_full_of_sayings(self):
        one = book_of(built("moments"), "ab", [("a", "b", "ahead")] * 25)
        other = book_of(built("moments"), "bc", [("c", "b", "ahead")] * 15)
        book = joined(one, other)
        self.assertEqual((len(book), book.coming()), (40, 41))
        self.check_new(book)
        with self.assertRaises(Full):
            book.say("a", "b", ["ahead"])
        other.say("b", "c", ["same"])
        self.check_refused(Full, lambda: joined(one, other), one, other)

    def test_unlike_ahead_of_full(self):
        one = book_of(built("moments"), "abcdef", [("a", "b", "ahead")] * 40)
        other = book_of(built("parts"), "gh", [("g", "h", "apart")])
        self.check_refused(Unlike, lambda: joined(one, other), one, other)
        self.check_refused(Unlike, lambda: joined(other, one), one, other)

    def test_books_stay_and_go_their_own_way(self):
        one, other = waiting_book(), waiting_book()
        other.drop("b")
        kept = [unwound(one), unwound(other)]
        book = joined(one, other)
        self.assertEqual([unwound(one), unwound(other)], kept)
        self.check_new(book)
        book.drop("a")
        book.say("b", "d", ["ahead"])
        self.assertEqual([unwound(one), unwound(other)], kept)
        before = shown(book)
        one.drop("a")
        other.thing("z")
        self.assertEqual(shown(book), before)


if __name__ == "__main__":
    unittest.main()
