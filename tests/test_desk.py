"""[19]: the desk's lines and answers."""

import itertools
import random
import unittest

from kindweft.built import WORDS, built
from kindweft.desk import Desk
from kindweft.errors import Broken, Missing, NothingBack, WeftError
from kindweft.pages import page
from kindweft.search import count, follows, least, lot, standing
from kindweft.tables import Table
from tests.making import lenient, pentagon, shown, unwound

# Lines of which steps and cases have something to tell.
CHAIN = ["thing a", "thing b", "thing c", "say a b ahead", "say b c same ahead"]
ASKING = [
    "things", "sayings", "closed a b", "closed c a", "stands", "follows a c ahead", "follows a c same", "kinds a c",
    "kinds b c", "count", "lot", "page", "closed a z", "follows a z ahead", "follows a b odd", "kinds z a", "odd", "",
]


def desk_with(word, lines):
    """A desk over a built table behind these lines, none of which is refused."""
    return worked(Desk(built(word)), lines)


def worked(desk, lines):
    for line in lines:
        answer = desk.say(line)
        if answer.startswith("no"):
            raise AssertionError((line, answer))
    return desk


class Checks(unittest.TestCase):
    def check(self, desk, *rows):
        """Lines and their answers, in order."""
        for line, answer in rows:
            told = desk.say(line)
            self.assertIsInstance(told, str)
            self.assertEqual(told, answer, line)

    def check_refused(self, desk, *rows):
        """Lines that are answered so and change nothing."""
        for line, answer in rows:
            kept = unwound(desk.book())
            self.check(desk, (line, answer))
            self.assertEqual(unwound(desk.book()), kept, line)


class Deeds(Checks):
    def test_thing(self):
        desk = Desk(built("moments"))
        self.check(desk, ("thing a", "done"), ("thing same", "done"), ("thing abcdefgh", "done"))
        self.check_refused(
            desk, ("thing A", "no BadName"), ("thing abcdefghi", "no BadName"), ("thing 1", "no BadName"),
            ("thing a", "no Taken"), ("thing same", "no Taken"), ("thing a\n", "no BadName"),
            ("thing \n", "no BadName"))
        self.check(desk, ("thing thing", "done"), ("thing none", "done"), ("thing line", "done"))
        self.check_refused(desk, ("thing g", "no Full"), ("thing G", "no BadName"), ("thing a", "no Taken"))
        self.check(desk, ("things", "a same abcdefgh thing none line"))

    def test_drop(self):
        desk = desk_with("moments", CHAIN)
        self.check_refused(desk, ("drop z", "no NoThing"), ("drop A", "no NoThing"), ("drop a\n", "no NoThing"))
        self.check(desk, ("drop b", "done"), ("things", "a c"), ("sayings", "none"), ("drop b", "no NoThing"))

    def test_say(self):
        desk = desk_with("moments", ["thing a", "thing b"])
        self.check(desk, ("say a b ahead", "1"), ("say b a behind same behind", "2"), ("say a a ahead", "3"))
        self.assertEqual(desk.book().sayings(), [
            (1, "a", "b", ["ahead"]), (2, "b", "a", ["same", "behind"]), (3, "a", "a", ["ahead"])])
        self.check_refused(
            desk, ("say z y odd", "no NoThing"), ("say a z odd", "no NoThing"), ("say a b odd", "no NoKind"),
            ("say a b ahead odd", "no NoKind"), ("say a b ahead\nsame", "no NoKind"), ("say a b\n ahead", "no NoThing"),
            ("say \n b ahead", "no NoThing"), ("say A B Ahead", "no NoThing"), ("say a b =", "no NoKind"))
        for number in range(4, 41):
            self.check(desk, ("say a b ahead", str(number)))
        self.check_refused(
            desk, ("say a b ahead", "no Full"), ("say a b odd", "no NoKind"), ("say a z odd", "no NoThing"))
        self.check(desk, ("strike 7", "done"), ("say a b ahead", "41"))

    def test_many_words_of_kinds(self):
        desk = desk_with("moments", ["thing a", "thing b"])
        self.check(desk, ("say a b" + " ahead same" * 190, "1"))
        self.assertEqual(desk.book().sayings(), [(1, "a", "b", ["ahead", "same"])])
        self.check(desk, ("follows a b" + " same ahead" * 190, "yes"), ("follows a b" + " same" * 380, "no"))

    def test_strike(self):
        desk = desk_with("moments", CHAIN)
        self.check_refused(
            desk, ("strike 3", "no NoSaying"), ("strike 0", "no NoSaying"), ("strike 999999999", "no NoSaying"))
        self.check(desk, ("strike 1", "done"), ("sayings", "2"), ("strike 1", "no NoSaying"), ("strike 2", "done"))
        self.check(desk, ("sayings", "none"))

    def test_strike_of_numbers_as_on_pages(self):
        desk = desk_with("moments", CHAIN)
        for word in ("01", "+1", "-1", "one", "1.", "1\n", "\n1", "1000000000", "0000000001", "00", "x", "1_0", "1 2"):
            self.check_refused(desk, (f"strike {word}", "no line"))
        self.check_refused(desk, ("strike", "no line"), ("strike ", "no line"))

    def test_undo_and_redo(self):
        desk = Desk(built("moments"))
        self.check_refused(desk, ("undo", "no NothingBack"), ("redo", "no NothingBack"))
        worked(desk, CHAIN)
        self.check(desk, ("undo", "done"), ("sayings", "1"), ("redo", "done"), ("sayings", "1 2"))
        self.check(desk, ("redo", "no NothingBack"), ("undo", "done"), ("undo", "done"), ("sayings", "none"))
        self.check(desk, ("say a c same", "1"), ("redo", "no NothingBack"))

    def test_what_is_refused_lets_nothing_go(self):
        desk = desk_with("moments", CHAIN + ["undo"])
        self.check_refused(
            desk, ("thing a", "no Taken"), ("drop z", "no NoThing"), ("say a b odd", "no NoKind"),
            ("strike 9", "no NoSaying"), ("odd", "no line"), ("say a b", "no line"), ("undo ", "no line"))
        self.check(desk, ("redo", "done"), ("sayings", "1 2"))


class Asking(Checks):
    def test_none(self):
        desk = Desk(built("moments"))
        self.check(
            desk, ("things", "none"), ("sayings", "none"), ("stands", "yes none"), ("count", "1"), ("lot", "none"),
            ("page", f"book\n{built('moments')}\nnext 1\n"))
        self.check(
            desk, ("thing a", "done"), ("things", "a"), ("sayings", "none"), ("stands", "yes none"), ("count", "1"),
            ("closed a a", "same"), ("kinds a a", "same"), ("follows a a same", "yes"), ("follows a a ahead", "no"))

    def test_of_a_chain(self):
        desk = desk_with("moments", CHAIN)
        self.check(
            desk, ("things", "a b c"), ("sayings", "1 2"), ("closed a c", "ahead"), ("closed c a", "behind"),
            ("closed b c", "ahead same"), ("closed a a", "same"), ("stands", "yes ahead ahead ahead"),
            ("follows a c ahead", "yes"), ("follows a c same behind", "no"), ("follows b c same ahead same", "yes"),
            ("follows b c ahead same behind", "yes"), ("kinds b c", "ahead same"), ("kinds c b", "same behind"),
            ("count", "2"), ("lot", "none"))

    def test_of_a_torn_book(self):
        desk = desk_with("moments", CHAIN + ["say c a ahead same"])
        self.check(
            desk, ("stands", "no"), ("lot", "1 2 3"), ("count", "0"), ("closed a b", "none"), ("closed a a", "none"),
            ("kinds a b", "none"), ("follows a b same", "yes"), ("follows a a ahead", "yes"), ("things", "a b c"),
            ("sayings", "1 2 3"))
        self.check(desk, ("say b b ahead", "4"), ("lot", "4"))

    def test_refusals(self):
        desk = desk_with("moments", CHAIN)
        self.check_refused(
            desk, ("closed z a", "no NoThing"), ("closed a z", "no NoThing"), ("closed a a\n", "no NoThing"),
            ("kinds z z", "no NoThing"), ("kinds a \n", "no NoThing"), ("follows z a odd", "no NoThing"),
            ("follows a z odd", "no NoThing"), ("follows a b odd", "no NoKind"), ("follows a b ahead b", "no NoKind"),
            ("follows a b ahead\n", "no NoKind"), ("follows a b \n", "no NoKind"), ("closed A b", "no NoThing"))

    def test_broken(self):
        told = [f"say {x} {y} kindb kindc kindd kinde kindf" for x, y in itertools.combinations("abcd", 2)]
        desk = worked(Desk(Table(*lenient(6))), [f"thing {name}" for name in "abcd"] + told + ["say a b kindb", "undo"])
        self.check_refused(desk, ("count", "no Broken"))
        self.check(desk, ("stands", "yes" + " kindb" * 6), ("redo", "done"), ("sayings", "1 2 3 4 5 6 7"))
        self.check(desk, ("count", str(5 ** 5)))

    def test_asking_changes_nothing(self):
        for lines in (CHAIN + ["undo"], CHAIN + ["say c a ahead", "thing d", "undo"]):
            desk = desk_with("moments", lines)
            kept = unwound(desk.book())
            first = [desk.say(line) for line in ASKING]
            self.assertEqual([desk.say(line) for line in ASKING], first)
            for line in ASKING:
                desk.say(line)
                self.assertEqual(unwound(desk.book()), kept, line)
            self.check(desk, ("redo", "done"))


class BesideTheBook(Checks):
    """A desk answers as its book does."""

    def listed(self, told):
        return " ".join(map(str, told)) or "none"

    def check_answers(self, desk, pairs, kinds):
        book = desk.book()
        word, found = standing(book)
        self.check(desk, ("stands", f"yes {self.listed(row[2] for row in found)}" if word == "stands" else "no"))
        self.check(desk, ("lot", self.listed(lot(book) or [])), ("page", page(book)))
        self.check(desk, ("things", self.listed(book.things())))
        self.check(desk, ("sayings", self.listed(row[0] for row in book.sayings())))
        try:
            self.check(desk, ("count", str(count(book))))
        except Broken:
            self.check(desk, ("count", "no Broken"))
        for one, other in pairs:
            self.check(desk, (f"closed {one} {other}", self.listed(book.closed(one, other))))
            self.check(desk, (f"kinds {one} {other}", self.listed(kind for kind, way in least(book, one, other))))
            told = "yes" if follows(book, one, other, kinds)[0] == "follows" else "no"
            self.check(desk, (f"follows {one} {other} {' '.join(kinds)}", told))

    def any_line(self, desk, chance):
        book = desk.book()
        names = book.things() + ["a", "z", "A"]
        kinds = " ".join(chance.sample(book.table().kinds() + ["odd"], chance.randint(1, 2)))
        pair = f"{chance.choice(names)} {chance.choice(names)}"
        return chance.choice([
            f"thing {chance.choice('abcdefA')}", f"thing {chance.choice('abcdef')}", f"drop {chance.choice(names)}",
            *[f"say {pair} {kinds}"] * 5, f"strike {chance.randint(0, 9)}", "undo", "redo",
        ])

    def do(self, book, line):
        """What a line's deed answers when it is done at a book."""
        word, *words = line.split(" ")
        try:
            if word == "say":
                return str(book.say(words[0], words[1], words[2:]))
            {
                "thing": lambda: book.thing(words[0]), "drop": lambda: book.drop(words[0]),
                "strike": lambda: book.strike(int(words[0])), "undo": book.undo, "redo": book.redo,
            }[word]()
            return "done"
        except (WeftError, Missing, NothingBack) as error:
            return f"no {type(error).__name__}"

    def test_deeds_and_asking(self):
        chance = random.Random(41)
        for table in [built(word) for word in WORDS] + [Table(*pentagon())]:
            desk = worked(Desk(table), ["thing a", "thing b", "thing c"])
            for at in range(40):
                line = self.any_line(desk, chance)
                beside = desk.book()
                self.check(desk, (line, self.do(beside, line)))
                self.assertEqual(unwound(desk.book()), unwound(beside), line)
                if at % 4 == 0 and beside.things():
                    pairs = [(chance.choice(beside.things()), chance.choice(beside.things())) for again in range(2)]
                    self.check_answers(desk, pairs, chance.sample(table.kinds(), 2))


class NoLine(Checks):
    FORMS = [
        "thing d", "drop a", "say a b ahead", "strike 1", "undo", "redo", "things", "sayings", "closed a b", "stands",
        "follows a b ahead", "kinds a b", "count", "lot", "page",
    ]

    def check_none(self, line):
        desk = desk_with("moments", CHAIN + ["thing e", "undo"])
        self.check_refused(desk, (line, "no line"))

    def test_the_forms_are_lines(self):
        for line in self.FORMS:
            desk = desk_with("moments", CHAIN + ["thing e", "undo"])
            self.assertNotEqual(desk.say(line), "no line", line)

    def test_a_word_too_many(self):
        for line in self.FORMS:
            if line.split()[0] not in ("say", "follows"):
                self.check_none(line + " a")
                self.check_none(line + " 1")
                self.check_none(line + " \n")

    def test_a_word_too_few(self):
        for line in self.FORMS:
            words = line.split()
            for size in range(1, len(words)):
                self.check_none(" ".join(words[:size]))
        for line in ("say", "say a", "say a b", "follows", "follows a", "follows a b", "closed a", "kinds", "kinds b"):
            self.check_none(line)

    def test_blanks(self):
        for line in self.FORMS:
            for bent in (" " + line, line + " ", "  " + line, line + "  ", line.replace(" ", "  "), "\n " + line):
                if bent != line:
                    self.check_none(bent)
        for line in ("say a  b ahead", "say a b  ahead", "say a b ahead ", "follows a b ahead  same", "closed  a b"):
            self.check_none(line)

    def test_the_empty_line(self):
        for line in ("", " ", "   ", "\n", "\n\n", " \n "):
            self.check_none(line)

    def test_words_of_other_cases_and_strange_ones(self):
        for line in self.FORMS:
            for bent in (line.upper(), line.capitalize(), "x" + line, line.replace(line.split()[0], "odd", 1)):
                self.check_none(bent)
            first, *rest = line.split(" ")
            self.check_none(" ".join([first + "s" if first not in ("thing", "say") else first[:-1], *rest]))
        for line in ("book", "next 1", "torn", "why a b", "say_all", "nth 0", "done", "no", "none", "line", "coming"):
            self.check_none(line)

    def test_line_feeds(self):
        for line in self.FORMS:
            first, *rest = line.split(" ")
            self.check_none(" ".join([first + "\n", *rest]))
            self.check_none(" ".join(["\n" + first, *rest]))
            if rest:
                self.check_none("\n".join([first, *rest]))
        for line in ("things\n", "undo\n", "page\n", "strike 1\n", "things\nthings"):
            self.check_none(line)


class Books(Checks):
    def test_a_twin(self):
        desk = desk_with("moments", CHAIN + ["undo"])
        book = desk.book()
        self.assertEqual(book.sayings(), [(1, "a", "b", ["ahead"])])
        book.redo()
        self.assertEqual(book.sayings(), [(1, "a", "b", ["ahead"]), (2, "b", "c", ["ahead", "same"])])
        book.undo()
        book.undo()
        book.undo()
        self.assertEqual(book.things(), ["a", "b"])

    def test_what_is_done_with_it_changes_nothing_at_the_desk(self):
        desk = desk_with("moments", CHAIN + ["undo"])
        kept = unwound(desk.book())
        text = desk.say("page")
        for deed in (
            lambda book: book.drop("a"), lambda book: book.say("a", "b", ["same"]), lambda book: book.undo(),
            lambda book: book.redo(), lambda book: book.thing("z"), lambda book: book.strike(1),
            lambda book: book.things().clear(), lambda book: book.sayings()[0][3].clear(),
        ):
            deed(desk.book())
            self.assertEqual(unwound(desk.book()), kept)
            self.assertEqual(desk.say("page"), text)

    def test_what_the_desk_does_changes_nothing_in_it(self):
        desk = desk_with("moments", CHAIN)
        book = desk.book()
        kept = unwound(book)
        for line in ("undo", "thing z", "drop a", "say b c ahead", "undo", "redo", "strike 2", "stands"):
            desk.say(line)
            self.assertEqual(unwound(book), kept)

    def test_two_desks_over_one_table(self):
        table = built("moments")
        one, other = Desk(table), Desk(table=table)
        worked(one, CHAIN)
        self.check(other, ("things", "none"), ("sayings", "none"), ("undo", "no NothingBack"))
        worked(other, ["thing c", "thing d", "say c d same"])
        self.check(one, ("things", "a b c"), ("sayings", "1 2"), ("closed a c", "ahead"))
        self.check(other, ("things", "c d"), ("closed c d", "same"))
        self.assertEqual(table, built("moments"))

    def test_by_names(self):
        desk = Desk(table=built("parts"))
        self.assertEqual(desk.say(line="thing a"), "done")
        self.assertEqual(shown(desk.book()), (["a"], [], 1, 0, built("parts")))


if __name__ == "__main__":
    unittest.main()
