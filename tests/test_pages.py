"""[18]: pages, and what is no page."""

import random
import unittest

from kindweft.book import Book
from kindweft.built import WORDS, built
from kindweft.errors import BadPage, BadTable, Full, NothingBack, Unlawful
from kindweft.made import renamed
from kindweft.pages import page, read_page
from kindweft.tables import Table
from kindweft.texts import read_table
from tests.making import any_deed, book_of, loose, pentagon, ring, shown, triangle, unwound, waiting_book

OWN_WORDS = ["book", "thing", "say", "next", "kinds", "same", "back", "step"]
TABLE_ROWS = [
    "kinds ahead same behind", "same same", "back ahead behind", "back same same", "back behind ahead",
    "step ahead ahead = ahead", "step ahead same = ahead", "step ahead behind = ahead same behind",
    "step same ahead = ahead", "step same same = same", "step same behind = behind",
    "step behind ahead = ahead same behind", "step behind same = behind", "step behind behind = behind",
]
# The book over moments that the tests bend row by row: 15 rows of book and table, things, sayings, next.
ROWS = ["book", *TABLE_ROWS, "thing b", "thing a", "say 2 a b ahead same", "say 5 b b same", "next 9"]
FIRST_THING, FIRST_SAYING, NEXT = 15, 17, 19


def text_of(rows):
    return "".join(row + "\n" for row in rows)


class Checks(unittest.TestCase):
    def check_bad(self, text, row):
        with self.assertRaises(BadPage, msg=repr(text[-60:])) as caught:
            read_page(text)
        self.assertEqual((caught.exception.row, caught.exception.word), (row, "BadPage"), repr(text[-60:]))

    def check_row(self, at, *bent):
        """Each of these in the place of a row is refused with that row."""
        for row in bent:
            self.check_bad(text_of(ROWS[:at] + [row] + ROWS[at + 1:]), at)

    def check_read(self, book):
        """A book and its page stand alike, and what is read has nothing to undo or redo."""
        text = page(book)
        read = read_page(text)
        self.assertEqual(shown(read), shown(book))
        self.assertEqual(page(read), text)
        for turn in (read.undo, read.redo):
            with self.assertRaises(NothingBack):
                turn()


class Page(Checks):
    def test_each_row(self):
        book = book_of(built("moments"), "ba", [
            ("a", "a", "same"), ("a", "b", "same ahead"), ("a", "b", "same"), ("b", "a", "behind"), ("b", "b", "same")])
        for number in (1, 3, 4):
            book.strike(number)
        for number in (6, 7, 8):
            self.assertEqual(book.say("a", "b", ["same"]), number)
            book.strike(number)
        self.assertEqual(page(book), text_of(ROWS))
        self.assertEqual(page(book=book), text_of(ROWS))

    def test_a_book_of_nothing(self):
        self.assertEqual(page(Book(built("moments"))), text_of(["book", *TABLE_ROWS, "next 1"]))
        ground = Table(["a"], "a", ["a"], [[["a"]]])
        text = "book\nkinds a\nsame a\nback a a\nstep a a = a\nnext 1\n"
        self.assertEqual(page(Book(ground)), text)
        self.assertEqual(shown(read_page(text)), shown(Book(ground)))

    def test_tables_rows_are_its_text(self):
        for word in WORDS:
            self.assertEqual(page(Book(built(word))), f"book\n{built(word)}\nnext 1\n")

    def test_asking_changes_nothing(self):
        book = waiting_book()
        kept = unwound(book)
        text = page(book)
        self.assertEqual(page(book), text)
        self.assertEqual(unwound(book), kept)


class Read(Checks):
    def test_stands_so(self):
        book = read_page(text=text_of(ROWS))
        self.assertIsInstance(book, Book)
        self.assertEqual(book.things(), ["b", "a"])
        self.assertEqual(book.sayings(), [(2, "a", "b", ["ahead", "same"]), (5, "b", "b", ["same"])])
        self.assertEqual((book.coming(), len(book)), (9, 2))
        self.assertEqual(book.table(), built("moments"))
        self.assertEqual(book.say("a", "b", ["ahead"]), 9)
        book.undo()
        with self.assertRaises(NothingBack):
            book.undo()

    def test_what_pages_tell(self):
        chance = random.Random(31)
        for table in [built(word) for word in WORDS] + [Table(*ring(13)), Table(*pentagon()), Table(*triangle())]:
            book = Book(table)
            for at in range(25):
                any_deed(book, chance)
                self.check_read(book)

    def test_gaps_deeds_taken_back_and_full_books(self):
        self.check_read(waiting_book())
        full = book_of(built("stretches"), ["a", "abcdefgh", "z", "b", "zzzzzzzz", "c"])
        full.say_all([("a", "z", full.table().kinds())] * 40)
        self.check_read(full)
        with self.assertRaises(Full):
            read_page(page(full)).say("a", "z", ["same"])

    def test_things_called_as_a_pages_words(self):
        for names in (OWN_WORDS[:6], OWN_WORDS[2:], OWN_WORDS[::-1][:6]):
            book = book_of(built("moments"), names)
            for one, other in zip(names, names[1:]):
                book.say(one, other, ["same", "ahead"])
            self.check_read(book)

    def test_kinds_called_as_a_pages_words(self):
        table = renamed(built("parts"), ["thing", "say", "next", "book", "step"])
        told = [("thing", "next", "say thing next"), ("next", "next", "step")]
        self.check_read(book_of(table, ["thing", "next"], told))

    def test_told_books_are_apart(self):
        text = text_of(ROWS)
        book = read_page(text)
        book.drop("a")
        book.sayings()[0][3].clear()
        self.assertEqual(page(read_page(text)), text)

    def test_numbers_of_nine_figures(self):
        rows = ROWS[:FIRST_SAYING] + ["say 999999998 a b same", "next 999999999"]
        book = read_page(text_of(rows))
        self.assertEqual((book.sayings(), book.coming()), ([(999999998, "a", "b", ["same"])], 999999999))
        self.assertEqual(page(book), text_of(rows))

    def test_numbers_of_more_figures_have_a_page_that_cannot_be_read(self):
        book = read_page(text_of(ROWS[:FIRST_SAYING] + ["next 999999999"]))
        self.assertEqual(book.say("a", "b", ["same"]), 999999999)
        self.check_bad(page(book), FIRST_SAYING + 1)
        book.say("a", "b", ["same"])
        self.check_bad(page(book), FIRST_SAYING + 1)

    def test_next_may_be_far_ahead(self):
        self.assertEqual(read_page(text_of(ROWS[:NEXT] + ["next 6"])).coming(), 6)
        self.assertEqual(read_page(text_of(ROWS[:NEXT] + ["next 70000"])).coming(), 70000)
        self.assertEqual(read_page(text_of(ROWS[:FIRST_THING] + ["next 4"])).coming(), 4)


class WholeRows(Checks):
    def test_first_row(self):
        self.check_row(0, "", "Book", "books", "book ", " book", "book x", "thing b", TABLE_ROWS[0], "next 1")

    def test_the_empty_text(self):
        self.check_bad("", 0)
        self.check_bad("\n", 0)
        self.check_bad("\n\n", 0)
        self.check_bad("book", 0)
        self.check_bad("book\n", 1)
        self.check_bad("book\n\n", 1)
        self.check_bad("boo", 0)

    def test_a_row_that_lacks(self):
        for size in range(len(ROWS)):
            self.check_bad(text_of(ROWS[:size]), size)

    def test_a_row_that_lacks_its_line_feed(self):
        for size in range(1, len(ROWS) + 1):
            self.check_bad(text_of(ROWS[:size])[:-1], size - 1)

    def test_a_row_out(self):
        for at in range(FIRST_THING):
            self.check_bad(text_of(ROWS[:at] + ROWS[at + 1:]), at)
        # Without a thing it is the first saying of it that cannot be.
        self.check_bad(text_of(ROWS[:16] + ROWS[17:]), 16)
        self.check_bad(text_of(ROWS[:15] + ROWS[16:]), 16)
        self.assertEqual(len(read_page(text_of(ROWS[:17] + ROWS[18:]))), 1)
        self.check_bad(text_of(ROWS[:-1]), NEXT)

    def test_a_row_twice(self):
        for at in range(len(ROWS)):
            self.check_bad(text_of(ROWS[:at + 1] + ROWS[at:]), at + 1)

    def test_rows_exchanged(self):
        for at in range(len(ROWS) - 1):
            bent = ROWS[:at] + [ROWS[at + 1], ROWS[at]] + ROWS[at + 2:]
            if at == FIRST_THING:
                self.assertEqual(read_page(text_of(bent)).things(), ["a", "b"])
            else:
                # Of the sayings it is the second that does not rise; the last one then stands behind next.
                self.check_bad(text_of(bent), at + 1 if at >= FIRST_SAYING else at)

    def test_a_row_behind_next(self):
        for row in ("", "x", "next 9", "next 10", "thing c", "say 6 a b same", "book", " "):
            self.check_bad(text_of(ROWS + [row]), NEXT + 1)
            if row:
                self.check_bad(text_of(ROWS) + row, NEXT + 1)

    def test_a_strange_row_anywhere(self):
        for at in range(len(ROWS)):
            for row in ("", " ", "odd", "Thing b", "says 1 a b same", "step", "kinds"):
                self.check_bad(text_of(ROWS[:at] + [row] + ROWS[at:]), at)

    def test_blanks(self):
        for at, row in enumerate(ROWS):
            self.check_row(at, " " + row, row + " ", row.replace(" ", "  ", 1) if " " in row else row + "  ")

    def test_words_of_other_cases(self):
        for at, row in enumerate(ROWS):
            self.check_row(at, row.upper(), row.capitalize())

    def test_the_first_wrong_row_goes(self):
        bent = list(ROWS)
        for at in range(len(ROWS) - 1, -1, -1):
            bent[at] = "odd"
            self.check_bad(text_of(bent), at)
            self.check_bad(text_of(bent)[:-1], at)


class TablesRows(Checks):
    def faults(self):
        """Rows of tables, each with a fault of its own sort."""
        swap = [1, 0, *range(2, 14)]
        yield [TABLE_ROWS[at] for at in swap]
        for at, row in (
            (0, "kinds"), (0, "kinds ahead same ahead"), (0, "kinds ahead Same behind"), (0, "kind ahead same behind"),
            (0, "kinds ahead same behind aheadandon"), (0, "kinds a b c d e f g h i j k l m n"), (1, "same odd"),
            (1, "same"), (1, "same same same"), (2, "back ahead"), (2, "back ahead odd"), (2, "back same same"),
            (3, "back same same same"), (5, "step ahead ahead ="), (5, "step ahead ahead"),
            (5, "step ahead same = ahead"),
            (7, "step ahead behind = same ahead behind"), (7, "step ahead behind = ahead ahead"),
            (7, "step ahead behind = odd"), (13, "step behind behind = behind "), (13, "step behind behind  = behind"),
        ):
            yield TABLE_ROWS[:at] + [row] + TABLE_ROWS[at + 1:]

    def test_the_tables_number_and_one(self):
        for rows in self.faults():
            try:
                read_table("\n".join(rows))
                self.fail(rows)
            except BadTable as error:
                at = error.row + 1
            except Unlawful:
                at = 1
            self.check_bad(text_of(["book", *rows, *ROWS[15:]]), at)

    def test_any_spoilt_row(self):
        chance = random.Random(32)
        text = str(built("branches"))
        for trial in range(300):
            at = chance.randrange(len(text))
            bent = text[:at] + chance.choice(["", " ", "a", "\n", "same", text[at] * 2]) + text[at + 1:]
            # A row too many is seen as such only at the end: behind the table's rows it is no thing's.
            try:
                read_table(bent)
                continue
            except BadTable as error:
                row = error.row + 1
            except Unlawful:
                row = 1
            self.check_bad(f"book\n{bent}\nthing a\nnext 1\n", row)

    def test_an_unlawful_table(self):
        names, same, backs, steps = loose()
        rows = [f"kinds {' '.join(names)}", f"same {same}"] + [f"back {x} {y}" for x, y in zip(names, backs)]
        for x, row in zip(names, steps):
            rows += [" ".join(["step", x, y, "=", *step]) for y, step in zip(names, row)]
        with self.assertRaises(Unlawful):
            read_table("\n".join(rows))
        self.check_bad(text_of(["book", *rows, "next 1"]), 1)
        self.check_bad(text_of(["book", *rows, "thing a", "say 1 a a same", "next 2"]), 1)
        # Also where a row behind the table cannot be, but not ahead of a row in it that is not so written.
        self.check_bad(text_of(["book", *rows, "odd"]), 1)
        self.check_bad(text_of(["book", *rows]), 1)
        self.check_bad(text_of(["book", *rows[:-1], "odd", "next 1"]), len(rows))
        self.check_bad(text_of(["Book", *rows, "next 1"]), 0)

    def test_thirteen_kinds(self):
        rows = page(book_of(Table(*ring(13)), "ab")).split("\n")
        size = 1 + 2 + 13 + 169
        self.assertEqual(rows[size:], ["thing a", "thing b", "next 1", ""])
        for at in (size - 1, size - 100, 16, 15, 3):
            bent = rows[:at] + ["odd"] + rows[at + 1:]
            self.check_bad("\n".join(bent), at)
        self.check_bad("\n".join(rows[:size]) + "\n", size)


class ThingsRows(Checks):
    def test_words_and_names(self):
        self.check_row(
            FIRST_THING, "thing", "thing ", "thing a b", "thing B", "thing b1", "thing abcdefghi", "thing b-",
            "things b", "thing  b", "next b", "say b")

    def test_a_thing_twice(self):
        self.check_row(16, "thing b")
        self.check_bad(text_of(ROWS[:17] + ["thing c", "thing a"] + ROWS[17:]), 18)

    def test_seven_things(self):
        rows = ROWS[:15] + [f"thing {name}" for name in "abcdefg"] + ["next 1"]
        self.check_bad(text_of(rows), 21)
        self.assertEqual(len(read_page(text_of(rows[:21] + ["next 1"])).things()), 6)

    def test_behind_a_saying(self):
        self.check_bad(text_of(ROWS[:18] + ["thing c"] + ROWS[18:]), 18)
        self.check_bad(text_of(ROWS[:19] + ["thing c"] + ROWS[19:]), 19)


class SayingsRows(Checks):
    def test_words(self):
        self.check_row(
            FIRST_SAYING, "say", "say 2", "say 2 a", "say 2 a b", "say 2 a b ", "say a b same", "say 2 a b same same",
            "say 2  a b same", "say  2 a b same", "says 2 a b same", "say 2 a b same  ahead", "say 2 a b ahead same ")

    def test_things(self):
        self.check_row(
            FIRST_SAYING, "say 2 c b same", "say 2 a c same", "say 2 A b same", "say 2 same b same", "say 2 a ab same")

    def test_kinds(self):
        self.check_row(
            FIRST_SAYING, "say 2 a b same ahead", "say 2 a b ahead ahead", "say 2 a b odd", "say 2 a b ahead odd",
            "say 2 a b ahead same behind odd", "say 2 a b Same", "say 2 a b behind same", "say 2 a b a")

    def test_numbers(self):
        wrong = ("02", "+2", "-2", "", "two", "2.", "0x2", "1000000000", "0000000002", "00", "2a", "1_0")
        self.check_row(FIRST_SAYING, *[f"say {number} a b ahead same" for number in wrong])
        # A book's numbers are from 1 on.
        self.check_row(FIRST_SAYING, "say 0 a b same")

    def test_numbers_rise(self):
        for number in ("2", "1", "0"):
            self.check_row(18, f"say {number} b b same")
        self.check_bad(text_of(ROWS[:19] + ["say 5 a a same"] + ROWS[19:]), 19)
        self.check_bad(text_of(ROWS[:19] + ["say 3 a a same"] + ROWS[19:]), 19)
        self.assertEqual(len(read_page(text_of(ROWS[:19] + ["say 6 a a same"] + ROWS[19:]))), 3)

    def test_forty_one(self):
        rows = ROWS[:17] + [f"say {at + 1} a b same" for at in range(41)] + ["next 70"]
        self.check_bad(text_of(rows), 57)
        self.assertEqual(len(read_page(text_of(rows[:57] + rows[58:]))), 40)

    def test_of_a_book_without_things(self):
        self.check_bad(text_of(ROWS[:15] + ["say 1 a b same", "next 2"]), 15)


class NextsRow(Checks):
    def test_words_and_numbers(self):
        wrong = ("", "nine", "09", "+9", "-9", "9 9", " 9", "9 ", "1000000000", "0000000009", "9.", "0")
        self.check_row(NEXT, "next", "Next 9", "nexts 9", *[f"next {number}" for number in wrong])

    def test_sayings_not_below_it(self):
        self.check_row(NEXT, "next 5", "next 4", "next 2", "next 1", "next 0")

    def test_without_sayings(self):
        rows = ROWS[:17]
        self.assertEqual(read_page(text_of(rows + ["next 1"])).coming(), 1)
        self.check_bad(text_of(rows + ["next 0"]), 17)
        self.check_bad(text_of(ROWS[:15] + ["next 0"]), 15)


if __name__ == "__main__":
    unittest.main()
