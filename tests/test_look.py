"""[12], [13] and the looker: led, fits and bars, whatever is handed in; [2] for what is handed in and told."""

import itertools
import random
import unittest

from kindweft.book import Book
from kindweft.built import WORDS, built
from kindweft.look import bars, fits, led
from kindweft.tables import Table
from tests.making import book_of, pentagon, shown, triangle
from tests.weaving import barring_tree, in_order, plain_web, standings, take


class Equal:
    """Equal to all, and nothing that can be looked up."""

    __hash__ = None

    def __eq__(self, other):
        return True


class Touchy:
    """Can be neither compared nor looked up nor tested."""

    def __eq__(self, other):
        raise RuntimeError("compared")

    def __hash__(self):
        raise RuntimeError("looked up")

    def __bool__(self):
        raise RuntimeError("tested")

    def __len__(self):
        raise RuntimeError("measured")


def endless():
    """A list that holds itself."""
    held = []
    held.append(held)
    return held


def strange():
    """Things of any kind, made anew."""
    return [
        None, True, False, 0, -1, 7, 10 ** 30 - 1, "", "a", "shut", "cases", "same", b"shut", [], (), {}, {"a": 1},
        {"a"}, [[]], [()], [None], ((),), ("shut",), ("a", "b"), ("a", "b", "c", "d"), ["a", "b", "c"], 1.5,
        Equal(), Touchy(), endless(), Book(built("moments")), built("moments"), len, int, range(3), object(),
    ]


def chain():
    return book_of(built("moments"), "abc", [("a", "b", "ahead"), ("b", "c", "ahead same")])


def round_book():
    """A book torn by steps, but not by the sayings alone."""
    return book_of(built("moments"), "abc", [("a", "b", "ahead"), ("b", "c", "ahead"), ("c", "a", "ahead same")])


def six_unlike():
    """A book of which steps alone tell nothing, and yet it cannot stand."""
    told = [(one, other, "red blue") for one, other in itertools.combinations("abcdef", 2)]
    return book_of(Table(*pentagon()), "abcdef", told)


class Led(unittest.TestCase):
    def test_of_no_steps(self):
        every = ["ahead", "same", "behind"]
        self.assertEqual(led(chain(), []), [
            ("a", "b", ["ahead"]), ("a", "c", every), ("b", "c", ["ahead", "same"])])
        self.assertEqual(led(Book(built("moments")), []), [])
        self.assertEqual(led(book_of(built("moments"), "a"), []), [])

    def test_each_two_in_the_books_order(self):
        book = book_of(built("moments"), "dbca", [("a", "d", "ahead"), ("b", "c", "same"), ("c", "b", "same")])
        told = led(book, [])
        self.assertEqual([row[:2] for row in told], list(itertools.combinations("dbca", 2)))
        self.assertEqual((told[2], told[3]), (("d", "a", ["behind"]), ("b", "c", ["same"])))

    def test_steps(self):
        behind = [("a", "b", ["ahead"]), ("a", "c", ["ahead"]), ("b", "c", ["ahead", "same"])]
        for steps in ([("a", "b", "c")], [("c", "b", "a")], [("b", "a", "c"), ("a", "b", "c"), ("a", "b", "c")]):
            self.assertEqual(led(chain(), steps), behind)
        self.assertEqual(led(chain(), [("b", "a", "c"), ("a", "c", "b")]), led(chain(), []))
        self.assertEqual(led(steps=[("a", "b", "c")], book=chain()), behind)

    def test_sets_that_become_empty(self):
        self.assertEqual(led(round_book(), [("a", "b", "c")]), [("a", "b", ["ahead"]), ("a", "c", []), (
            "b", "c", ["ahead"])])
        self.assertEqual(led(round_book(), [("a", "b", "c"), ("b", "a", "c")]), [("a", "b", ["ahead"]), (
            "a", "c", []), ("b", "c", [])])
        book = book_of(built("moments"), "abc", [("a", "b", "ahead"), ("b", "a", "ahead")])
        self.assertEqual(led(book, []), [("a", "b", []), ("a", "c", book.table().kinds()), (
            "b", "c", book.table().kinds())])

    def test_a_saying_of_a_thing_and_itself_leaves_the_pairs(self):
        book = book_of(built("moments"), "ab", [("a", "a", "ahead"), ("a", "b", "same")])
        self.assertEqual(led(book, []), [("a", "b", ["same"])])

    def test_beside_steps_taken_plainly(self):
        chance = random.Random(5)
        for table in [built(word) for word in WORDS] + [Table(*triangle())]:
            for turn in range(12):
                book = book_of(table, "dacb")
                for at in range(4):
                    one, other = chance.sample("abcd", 2)
                    book.say(one, other, chance.sample(table.kinds(), chance.randint(1, len(table) - 1)))
                steps = [tuple(chance.sample("abcd", 3)) for at in range(chance.randint(0, 12))]
                web = plain_web(book)
                for step in steps:
                    take(table, web, step)
                self.assertEqual(led(book, steps), [
                    (one, other, in_order(table, web[one, other]))
                    for one, other in itertools.combinations(book.things(), 2)])

    def test_none_for_each_wrong_step(self):
        good = ("a", "b", "c")
        wrong = [
            ("a", "b"), ("a", "b", "c", "a"), ("a", "b", "d"), ("d", "b", "a"), ("a", "x", "b"), ("a", "b", "a"),
            ("a", "a", "b"), ("a", "b", "b"), ("a", "a", "a"), ["a", "b", "c"], 3, "abc", None, (), [], ("a", 1, "c"),
            ("a", None, "c"), (["a"], "b", "c"), ("a", "b", Equal()), ("A", "b", "c"), ("", "b", "c"), {"a", "b", "c"},
            ((good,),), Touchy(), ("a", "b", Touchy()),
        ]
        for step in wrong:
            for steps in ([step], [good, step], [step, good], [good, step, good]):
                self.assertIsNone(led(chain(), steps))
            self.assertIsNone(led(round_book(), [good, good, step]))

    def test_none_for_what_is_no_list(self):
        for steps in (None, (), (("a", "b", "c"),), "", "abc", 3, {}, {("a", "b", "c"): True}):
            self.assertIsNone(led(chain(), steps))

    def test_lists(self):
        book = chain()
        steps = [("a", "b", "c"), ("b", "a", "c")]
        kept = shown(book)
        told = led(book, steps)
        again = led(book, steps)
        self.assertEqual(steps, [("a", "b", "c"), ("b", "a", "c")])
        for row in told:
            row[2].clear()
        told.clear()
        steps.clear()
        self.assertEqual(again, led(book, [("a", "b", "c"), ("b", "a", "c")]))
        self.assertEqual(len({id(row[2]) for row in again}), 3)
        self.assertEqual(shown(book), kept)


class Fits(unittest.TestCase):
    def check_all(self, book):
        """Each list of a kind for each two things fits just where it is a standing."""
        pairs = list(itertools.combinations(book.things(), 2))
        lawful = list(standings(book))
        many = 0
        for kinds in itertools.product(book.table().kinds(), repeat=len(pairs)):
            standing = [(one, other, kind) for (one, other), kind in zip(pairs, kinds)]
            self.assertIs(fits(book, standing), standing in lawful)
            many += standing in lawful
        self.assertEqual(many, len(lawful))
        return many

    def test_without_sayings(self):
        self.assertEqual(self.check_all(book_of(built("moments"), "ab")), 3)
        self.assertEqual(self.check_all(book_of(built("moments"), "cab")), 13)
        self.assertEqual(self.check_all(book_of(built("moments"), "abcd")), 75)
        self.assertEqual(self.check_all(book_of(built("stretches"), "ba")), 13)
        self.assertEqual(self.check_all(book_of(built("stretches"), "abc")), 409)
        self.assertEqual(self.check_all(book_of(Table(*triangle()), "abc")), 36)

    def test_with_sayings(self):
        self.assertEqual(self.check_all(chain()), 2)
        self.assertEqual(self.check_all(round_book()), 0)
        told = [("c", "a", "within around across"), ("b", "c", "within same"), ("b", "b", "same apart")]
        self.assertGreater(self.check_all(book_of(built("parts"), "abc", told)), 0)
        told = [("c", "a", "up"), ("b", "a", "down apart"), ("c", "d", "up same down")]
        self.assertGreater(self.check_all(book_of(built("branches"), "abcd", told)), 0)

    def test_a_saying_turned_about(self):
        book = book_of(built("moments"), "ab", [("b", "a", "ahead")])
        self.assertIs(fits(book, [("a", "b", "behind")]), True)
        self.assertIs(fits(book, [("a", "b", "ahead")]), False)
        self.assertIs(fits(book, [("b", "a", "ahead")]), False)

    def test_six_things(self):
        for word in WORDS:
            book = book_of(built(word), "fedcba", [("a", "f", " ".join(built(word).kinds()[1:]))])
            standing = next(standings(book, random.Random(word)))
            self.assertIs(fits(book, standing), True)
            for at, (one, other, kind) in enumerate(standing):
                for strange_kind in ("odd", "", "Same", 1, None):
                    spoilt = standing[:at] + [(one, other, strange_kind)] + standing[at + 1:]
                    self.assertIs(fits(book, spoilt), False)

    def test_the_empty_list(self):
        self.assertIs(fits(Book(built("moments")), []), True)
        self.assertIs(fits(book_of(built("moments"), "a"), []), True)
        self.assertIs(fits(book_of(built("moments"), "a", [("a", "a", "same ahead")]), []), True)
        self.assertIs(fits(book_of(built("moments"), "ab"), []), False)
        self.assertIs(fits(book_of(built("moments"), "a"), [("a", "a", "same")]), False)

    def test_a_torn_book(self):
        self.assertIs(fits(book_of(built("moments"), "a", [("a", "a", "ahead")]), []), False)
        book = book_of(built("moments"), "ab", [("b", "b", "ahead behind")])
        for kind in book.table().kinds():
            self.assertIs(fits(book, [("a", "b", kind)]), False)

    def test_other_forms(self):
        book = chain()
        first, second, third = rows = [("a", "b", "ahead"), ("a", "c", "ahead"), ("b", "c", "ahead")]
        self.assertIs(fits(book, rows), True)
        self.assertIs(fits(standing=rows, book=book), True)
        for standing in (
            [first, second], [second, third], [], [first, second, third, third], [first, first, third],
            [second, first, third], [first, third, second], rows[::-1], [first, ("c", "a", "behind"), third],
            [("b", "a", "behind"), second, third], [first, second, ("b", "c", "odd")], [first, second, list(third)],
            [list(first), second, third], [first, second, ("b", "c")], [first, second, ("b", "c", "ahead", "ahead")],
            [first, ("a", "ahead", "c"), third], tuple(rows), {row: True for row in rows}, set(rows), str(rows), None,
            [first, second, ("b", "c", ["ahead"])], [first, second, ("b", "c", Equal())], [first, second, Equal()],
            [("a", Equal(), "ahead"), second, third], [first, second, ("b", "d", "ahead")], [first, second, "bca"],
        ):
            self.assertIs(fits(book, standing), False, standing)

    def test_anything(self):
        book = chain()
        for held in strange():
            self.assertIs(fits(book, held), False)
            rows = [("a", "b", "ahead"), ("a", "c", "ahead")]
            if isinstance(held, str) and held == "same":
                continue
            for row in (held, ("b", "c", held), ("b", held, "ahead"), (held, "c", "ahead")):
                self.assertIs(fits(book, rows + [row]), False)
                self.assertIs(fits(book, [row]), False)

    def test_lists_stay(self):
        book, rows = chain(), [("a", "b", "ahead"), ("a", "c", "ahead"), ("b", "c", "ahead")]
        kept = shown(book)
        self.assertIs(fits(book, rows), True)
        self.assertEqual(rows, [("a", "b", "ahead"), ("a", "c", "ahead"), ("b", "c", "ahead")])
        rows.clear()
        self.assertEqual(shown(book), kept)
        self.assertIs(fits(book, rows), False)


def parted(*trees):
    """The branches of all three kinds of moments."""
    return list(zip(["ahead", "same", "behind"], trees))


class Shut(unittest.TestCase):
    def test_steps_that_empty_a_set(self):
        for steps in ([("a", "b", "c")], [("c", "b", "a")], [("b", "c", "a")], [("b", "a", "c"), ("b", "a", "c")]):
            self.assertIs(bars(round_book(), ("shut", steps)), True)
        self.assertIs(bars(tree=("shut", [("a", "b", "c")]), book=round_book()), True)

    def test_steps_that_empty_none(self):
        self.assertIs(bars(round_book(), ("shut", [])), False)
        for steps in ([], [("a", "b", "c")], [("a", "b", "c"), ("a", "c", "b")]):
            self.assertIs(bars(chain(), ("shut", steps)), False)
        told = [("a", "b", "ahead"), ("b", "c", "ahead"), ("c", "d", "ahead"), ("d", "a", "ahead")]
        book = book_of(built("moments"), "abcd", told)
        self.assertIs(bars(book, ("shut", [("a", "b", "c")])), False)
        self.assertIs(bars(book, ("shut", [("a", "b", "c"), ("a", "c", "d")])), True)
        self.assertIs(bars(book, ("shut", [("a", "c", "d"), ("a", "b", "c")])), False)

    def test_sayings_that_leave_none(self):
        for things in ("ab", "abc"):
            book = book_of(built("moments"), things, [("a", "b", "ahead"), ("b", "a", "ahead")])
            self.assertIs(bars(book, ("shut", [])), True)
        for things in ("a", "ab", "abc"):
            book = book_of(built("moments"), things, [("a", "a", "ahead")])
            self.assertIs(bars(book, ("shut", [])), True)
        self.assertIs(bars(book, ("shut", [("a", "b", "c")])), True)
        self.assertIs(bars(Book(built("moments")), ("shut", [])), False)
        self.assertIs(bars(book_of(built("moments"), "a"), ("shut", [])), False)

    def test_why_shuts(self):
        book = round_book()
        self.assertIs(bars(book, ("shut", book.why("a", "b"))), True)

    def test_wrong_steps(self):
        good = ("a", "b", "c")
        for step in (
            ("a", "b"), ("a", "b", "c", "a"), ("a", "b", "d"), ("a", "b", "a"), ["a", "b", "c"], 3, "abc", None,
            ("a", 1, "c"), ("a", ["b"], "c"), Equal(), Touchy(), ("a", Touchy(), "c"),
        ):
            for steps in ([step], [good, step], [step, good]):
                self.assertIs(bars(round_book(), ("shut", steps)), False)
        for steps in ((good,), (), None, "abc", {good: True}, 3):
            self.assertIs(bars(round_book(), ("shut", steps)), False)
        torn = book_of(built("moments"), "abc", [("a", "a", "ahead")])
        for steps in ((), None, [None], [("a", "b")], [("a", "b", "b")]):
            self.assertIs(bars(torn, ("shut", steps)), False)


class Cases(unittest.TestCase):
    def setUp(self):
        """A round of four: each case of a and c is shut by one step, over b or over d."""
        told = [("a", "b", "ahead"), ("b", "c", "ahead"), ("c", "d", "ahead"), ("d", "a", "ahead same")]
        self.book = book_of(built("moments"), "abcd", told)
        self.over_b, self.over_d = ("shut", [("a", "b", "c")]), ("shut", [("a", "d", "c")])
        self.branches = parted(self.over_d, self.over_b, self.over_b)
        self.tree = ("cases", [], "a", "c", self.branches)

    def check(self, tree, expected):
        self.assertIs(bars(self.book, tree), expected, tree)

    def test_bars(self):
        self.check(self.tree, True)
        self.check(("cases", [], "a", "c", parted(self.over_d, self.over_d, self.over_b)), True)
        self.check(("cases", [("a", "c", "d"), ("b", "a", "d")], "a", "c", self.branches), True)

    def test_a_branch_that_does_not_bar(self):
        self.check(("cases", [], "a", "c", parted(self.over_b, self.over_b, self.over_b)), False)
        self.check(("cases", [], "a", "c", parted(self.over_d, self.over_b, self.over_d)), False)
        for at in range(3):
            for tree in (("shut", []), ("shut", [("b", "a", "d")]), ("cases", [], "a", "c", [])):
                branches = list(self.branches)
                branches[at] = (branches[at][0], tree)
                self.check(("cases", [], "a", "c", branches), False)

    def test_the_pair_either_way_about(self):
        self.check(("cases", [], "c", "a", parted(self.over_b, self.over_b, self.over_d)), True)
        self.check(("cases", [], "c", "a", self.branches), False)

    def test_just_the_kinds_of_the_set(self):
        # The step leaves ahead alone; two kinds are there where a saying leaves two.
        self.check(("cases", [("a", "b", "c")], "a", "c", self.branches), False)
        self.check(("cases", [("a", "b", "c")], "a", "c", [("ahead", self.over_d)]), False)
        two = ("shut", [("a", "b", "c"), ("a", "c", "d")])
        self.check(two, True)
        kinds = [("ahead", two), ("same", two)]
        self.check(("cases", [], "d", "a", kinds), True)
        self.check(("cases", [], "a", "d", [("same", two), ("behind", two)]), True)
        for branches in (
            kinds[:1], kinds[1:], [], kinds[::-1], kinds + [("behind", two)], kinds + kinds[1:], kinds[:1] * 2,
            [("ahead", two), ("behind", two)], [("ahead", two), ("odd", two)], [("ahead", two), (None, two)],
        ):
            self.check(("cases", [], "d", "a", branches), False)

    def test_another_order(self):
        for order in itertools.permutations(self.branches):
            self.check(("cases", [], "a", "c", list(order)), list(order) == self.branches)

    def test_cases_within_cases(self):
        further = ("cases", [("a", "c", "b")], "b", "d", parted(self.over_d, self.over_d, self.over_d))
        self.check(("cases", [], "a", "c", parted(further, self.over_b, self.over_b)), True)
        again = ("cases", [], "a", "c", parted(self.over_d, self.over_d, self.over_d))
        self.check(("cases", [], "a", "c", parted(again, self.over_b, self.over_b)), False)
        self.check(("cases", [], "b", "d", parted(self.tree, self.tree, self.tree)), True)

    def test_things(self):
        for one, other in (
            ("a", "a"), ("a", "x"), ("x", "c"), ("", ""), ("a", None), (1, "c"), ("a", ["c"]), (Equal(), "c"),
            ("a", Touchy()), (("a",), "c"), ("A", "C"),
        ):
            self.assertIs(bars(self.book, ("cases", [], one, other, self.branches)), False)

    def test_a_thing_and_itself(self):
        book = book_of(built("moments"), "ab", [("a", "a", "ahead")])
        for branches in ([], [("same", ("shut", []))], parted(*[("shut", [])] * 3)):
            self.assertIs(bars(book, ("cases", [], "a", "a", branches)), False)
        self.assertIs(bars(book, ("cases", [], "a", "b", parted(*[("shut", [])] * 3))), True)

    def test_an_empty_set_of_another_pair(self):
        steps = [("a", "b", "c"), ("a", "c", "d")]
        shut = ("shut", [])
        self.check(("cases", steps, "b", "d", parted(shut, shut, shut)), True)
        self.check(("cases", steps, "a", "d", []), False)
        self.check(("cases", steps, "b", "d", []), False)

    def test_wrong_steps(self):
        for steps in (
            (), None, [("a", "b")], [("a", "b", "x")], [["a", "b", "c"]], [("a", "c", "a")], "", {}, [Equal()],
        ):
            self.check(("cases", steps, "a", "c", self.branches), False)

    def test_branches_of_other_forms(self):
        tree = self.over_b
        for branches in (
            tuple(self.branches), None, dict(self.branches), "ahead", 3, [list(row) for row in self.branches],
            [row + (tree,) for row in self.branches], [row[:1] for row in self.branches], ["ahead", "same", "behind"],
            [tree] * 3, [None] * 3, [()] * 3, self.branches[:2] + [Equal()], self.branches[:2] + [(Equal(), tree)],
            self.branches[:2] + [(["behind"], tree)],
        ):
            self.assertIs(bars(self.book, ("cases", [], "a", "c", branches)), False)

    def test_lists_stay(self):
        kept, stood = repr(self.tree), shown(self.book)
        self.check(self.tree, True)
        self.assertEqual((repr(self.tree), shown(self.book)), (kept, stood))
        self.branches.clear()
        self.check(self.tree, False)
        self.assertEqual(shown(self.book), stood)


class OtherForms(unittest.TestCase):
    def test_anything_by_itself(self):
        for book in (Book(built("moments")), chain(), round_book(), six_unlike()):
            for held in strange():
                self.assertIs(bars(book, held), False)

    def test_other_words_and_sizes(self):
        steps = [("a", "b", "c")]
        for tree in (
            ["shut", steps], ("Shut", steps), ("shuts", steps), ("cases", steps), (None, steps), ("shut",), ("shut", steps, []),
            ("shut", steps, "a", "b", []), (steps, "shut"), ("shut", tuple(steps)), ("shut", None), "shut", (b"shut", steps),
            (["shut"], steps), (Equal(), steps), (Touchy(), steps), ("cases", steps, "a", "b"), (), ("shut", steps, None),
            ("cases", steps, "a", "b", [], []), ("", steps), (1, steps), (True, steps), (("shut", steps),),
        ):
            self.assertIs(bars(round_book(), tree), False)

    def four_round(self):
        """A book that is barred by cases, and a tree that bars it."""
        told = [("a", "b", "ahead"), ("b", "c", "ahead"), ("c", "d", "ahead"), ("d", "a", "ahead same")]
        trees = [("shut", [("a", "d", "c")]), ("shut", [("a", "b", "c")]), ("shut", [("a", "b", "c")])]
        return book_of(built("moments"), "abcd", told), ("cases", [], "a", "c", parted(*trees))

    def test_anything_in_any_place(self):
        book, whole = self.four_round()
        self.assertIs(bars(book, whole), True)
        for at in range(5):
            for held in strange():
                alike = isinstance(held, (str, list)) and held == whole[at]
                self.assertIs(bars(book, whole[:at] + (held,) + whole[at + 1:]), alike)

    def test_anything_as_a_branch(self):
        book, whole = self.four_round()
        for at in range(3):
            # The word same is a kind, and right at its place.
            for held in [held for held in strange() if not isinstance(held, str) or held != "same"]:
                for branch in (held, (whole[4][at][0], held), (held, whole[4][at][1])):
                    branches = list(whole[4])
                    branches[at] = branch
                    self.assertIs(bars(book, whole[:4] + (branches,)), False)

    def test_endless_and_deep_trees(self):
        book = six_unlike()
        branches = []
        tree = ("cases", [], "a", "b", branches)
        branches += [("red", tree), ("blue", tree)]
        self.assertIs(bars(book, tree), False)
        deep = ("shut", [])
        for turn in range(20000):
            deep = ("cases", [], "a", "b", [("red", deep), ("blue", deep)])
        self.assertIs(bars(book, deep), False)
        # Takes itself apart from the outside: a chain this long is not let go of within itself.
        while len(deep) == 5:
            deep = deep[4].pop()[1]


class GreatTrees(unittest.TestCase):
    """Trees made plainly bar; spoilt at any place they do not."""

    def test_bars_just_where_there_is_no_standing(self):
        chance = random.Random(3)
        seen = set()
        for word in WORDS:
            table = built(word)
            for turn in range(12):
                book = book_of(table, "abcd")
                for one, other in itertools.combinations("abcd", 2):
                    book.say(one, other, chance.sample(table.kinds(), min(2, len(table) - 1)))
                tree = barring_tree(book)
                stands = next(standings(book), None)
                self.assertEqual(tree is None, stands is not None)
                seen.add(tree is None)
                if tree is not None:
                    self.assertIs(bars(book, tree), True)
                else:
                    self.assertIs(bars(book, ("shut", book.why("a", "b"))), False)
        self.assertEqual(seen, {True, False})

    def test_six_unlike(self):
        book = six_unlike()
        tree = barring_tree(book)
        self.assertEqual(tree[0], "cases")
        self.assertIs(bars(book, tree), True)
        book.drop("f")
        self.assertIs(bars(book, tree), False)
        book.undo()
        book.strike(1)
        self.assertIs(bars(book, tree), False)

    def test_spoilt_trees(self):
        book = six_unlike()
        tree = barring_tree(book)
        many = 0
        for spoilt in spoilt_trees(tree):
            self.assertIs(bars(book, spoilt), False)
            many += 1
        self.assertGreater(many, 100)


def spoilt_trees(tree):
    """The tree, spoilt at one node in each of several ways."""
    yield from (list(tree), tree[:1] + (tuple(tree[1]),) + tree[2:], tree + (None,), tree[:-1], None)
    yield (tree[0], tree[1] + [("a", "b")], *tree[2:])
    if tree[0] == "shut":
        if tree[1]:
            yield ("shut", tree[1][:-1])
        return
    word, steps, one, other, branches = tree
    yield (word, steps, one, other, branches[::-1])
    yield (word, steps, one, other, branches[1:])
    yield (word, steps, one, "x", branches)
    for at, (kind, inner) in enumerate(branches):
        for spoilt in spoilt_trees(inner):
            yield (word, steps, one, other, branches[:at] + [(kind, spoilt)] + branches[at + 1:])


if __name__ == "__main__":
    unittest.main()
