"""[8]: tables made of tables."""

import itertools
import unittest

from kindweft.built import WORDS, built
from kindweft.errors import BadKinds, BadTable, Full, NoKind, Unlawful
from kindweft.made import coarser, paired, renamed, turned
from kindweft.tables import Table
from kindweft.texts import read_table
from tests.making import moments, pentagon, ring, triangle

BAD_NAMES = {
    "too few": lambda names: names[:-1],
    "none at all": lambda names: [],
    "too many": lambda names: names + ["more"],
    "an upper letter": lambda names: ["Aa"] + names[1:],
    "a sign that is no letter": lambda names: names[:-1] + ["a b"],
    "nine letters": lambda names: names[:-1] + ["abcdefghi"],
    "an empty one": lambda names: [""] + names[1:],
    "a number": lambda names: [1] + names[1:],
    "a list": lambda names: [["aa"]] + names[1:],
    "None": lambda names: names[:-1] + [None],
    "one twice": lambda names: names[:-1] + names[:1],
    "a tuple": lambda names: tuple(names),
    "a text": lambda names: "".join(name[0] for name in names),
    "a dict": lambda names: {name: True for name in names},
    "a number alone": lambda names: 7,
}


class Checks(unittest.TestCase):
    def check_bad_names(self, call, names):
        """Each way in which names are bad; names are good ones, two at least."""
        call(names)
        for way, spoil in BAD_NAMES.items():
            with self.assertRaises(BadTable, msg=way) as caught:
                call(spoil(list(names)))
            self.assertEqual(caught.exception.row, -1, way)


def places(table):
    """A table without its names: the place of same, of each back, of each step's kinds."""
    kinds = table.kinds()
    return (
        kinds.index(table.same),
        [kinds.index(table.back(kind)) for kind in kinds],
        [[[kinds.index(kind) for kind in table.step(one, other)] for other in kinds] for one in kinds],
    )


class Paired(Checks):
    def check_parts(self, one, other, table):
        """Each kind's parts stand by the place: same, backs and steps are those of either."""
        pairs = list(itertools.product(one.kinds(), other.kinds()))
        kinds = table.kinds()
        self.assertEqual(len(kinds), len(pairs))
        part = dict(zip(kinds, pairs))
        self.assertEqual(part[table.same], (one.same, other.same))
        for kind in kinds:
            first, second = part[kind]
            self.assertEqual(part[table.back(kind)], (one.back(first), other.back(second)))
        for x, y in itertools.product(kinds, repeat=2):
            told = [part[kind] for kind in table.step(x, y)]
            firsts, seconds = one.step(part[x][0], part[y][0]), other.step(part[x][1], part[y][1])
            self.assertEqual(told, list(itertools.product(firsts, seconds)))

    def test_names_left_out(self):
        table = paired(built("moments"), built("branches"))
        self.assertIsInstance(table, Table)
        self.assertEqual(table.kinds(), "aa ab ac ad ba bb bc bd ca cb cc cd".split())
        self.assertEqual(table.same, "bb")
        self.assertEqual(table.back("aa"), "cc")
        self.assertEqual(table.step("aa", "ad"), ["aa", "ad"])
        self.assertEqual(table, paired(built("moments"), built("branches"), names=None))

    def test_backs_and_steps(self):
        tables = [built("moments"), Table(*pentagon()), built("branches"), Table(*ring(2)), Table(*ring(1))]
        for one, other in itertools.product(tables, repeat=2):
            if len(one) * len(other) <= 13:
                self.check_parts(one, other, paired(one, other))

    def test_moments_twice_are_courses(self):
        # The second number is told first in the names of courses: n and s ahead of w and e.
        names = "nw n ne w same e sw s se".split()
        self.assertEqual(paired(built("moments"), built("moments"), names=names), built("courses"))

    def test_text(self):
        table = paired(Table(*ring(2)), Table(*ring(1)), names=["s", "t"])
        rows = ["kinds s t", "same s", "back s s", "back t t"]
        rows += ["step s s = s", "step s t = t", "step t s = t", "step t t = s"]
        self.assertEqual(str(table), "\n".join(rows))
        self.assertEqual(read_table(str(table)), table)

    def test_one_kind_each(self):
        table = paired(Table(*ring(1)), Table(*ring(1)))
        self.assertEqual((table.kinds(), table.same, table.step("aa", "aa")), (["aa"], "aa", ["aa"]))

    def test_thirteen_kinds_and_one(self):
        for one, other in ((ring(13), ring(1)), (ring(1), ring(13))):
            one, other = Table(*one), Table(*other)
            table = paired(one, other)
            self.assertEqual(len(table), 13)
            self.check_parts(one, other, table)
        self.assertEqual(paired(Table(*ring(13)), Table(*ring(1))).kinds()[-1], "ma")
        self.assertEqual(paired(Table(*ring(1)), Table(*ring(13))).kinds()[-1], "am")
        self.check_parts(built("stretches"), Table(*ring(1)), paired(built("stretches"), Table(*ring(1))))

    def test_full(self):
        for many, more in ((7, 2), (2, 7), (13, 2), (13, 13), (4, 4)):
            with self.assertRaises(Full):
                paired(Table(*ring(many)), Table(*ring(more)))
        self.assertEqual(len(paired(Table(*ring(6)), Table(*ring(2)))), 12)

    def test_full_ahead_of_bad_names(self):
        for names in ([], ["x"], "odd", ("x",), ["x"] * 14, [f"x{letter}" for letter in "abcdefghijklmn"]):
            with self.assertRaises(Full):
                paired(Table(*ring(7)), Table(*ring(2)), names=names)

    def test_bad_names(self):
        one, other = Table(*ring(2)), Table(*ring(3))
        self.check_bad_names(lambda names: paired(one, other, names=names), list("uvwxyz"))
        self.assertEqual(paired(one, other, names=list("zyxwvu")).kinds(), list("zyxwvu"))

    def test_arguments(self):
        one, other = built("moments"), Table(*ring(2))
        self.assertEqual(paired(other=other, one=one), paired(one, other))
        with self.assertRaises(TypeError):
            paired(one, other, list("abcdef"))

    def test_names_stay_and_are_not_kept(self):
        names = list("uvwx")
        table = paired(Table(*ring(2)), Table(*ring(2)), names=names)
        self.assertEqual(names, list("uvwx"))
        names.clear()
        self.assertEqual(table.kinds(), list("uvwx"))


class Turned(unittest.TestCase):
    def test_kinds_backs_and_steps(self):
        tables = [built(word) for word in WORDS] + [Table(*triangle()), Table(*pentagon()), Table(*ring(1))]
        for table in tables:
            about = turned(table)
            self.assertIsInstance(about, Table)
            self.assertEqual((about.kinds(), about.same), (table.kinds(), table.same))
            for one in table.kinds():
                self.assertEqual(about.back(one), table.back(one))
                for other in table.kinds():
                    self.assertEqual(about.step(one, other), table.step(other, one))
            self.assertEqual(turned(about), table)

    def test_where_the_order_matters(self):
        table = Table(*triangle())
        self.assertNotEqual(turned(table), table)
        self.assertNotEqual(turned(table).step("left", "flipa"), table.step("left", "flipa"))
        self.assertEqual(turned(table=table), turned(table))
        self.assertEqual(turned(turned(turned(table))), turned(table))


class Renamed(Checks):
    def test_same_places(self):
        for word in WORDS:
            table = built(word)
            names = [f"x{letter}" for letter in "abcdefghijklm"[:len(table)]]
            other = renamed(table, names)
            self.assertIsInstance(other, Table)
            self.assertEqual(other.kinds(), names)
            self.assertEqual(places(other), places(table))
            self.assertEqual(renamed(other, table.kinds()), table)

    def test_names_exchanged(self):
        table = renamed(built("moments"), ["same", "ahead", "behind"])
        self.assertEqual((table.same, table.back("same")), ("ahead", "behind"))
        self.assertEqual(table.step("same", "behind"), ["same", "ahead", "behind"])
        self.assertEqual(places(table), places(built("moments")))

    def test_own_names(self):
        table = built("parts")
        self.assertEqual(renamed(table, table.kinds()), table)
        self.assertEqual(renamed(names=table.kinds(), table=table), table)

    def test_bad_names(self):
        self.check_bad_names(lambda names: renamed(built("branches"), names), list("wxyz"))
        self.check_bad_names(lambda names: renamed(Table(*ring(13)), names), list("abcdefghijklm"))

    def test_names_stay_and_are_not_kept(self):
        names = list("zyx")
        table = renamed(built("moments"), names)
        self.assertEqual(names, list("zyx"))
        names.clear()
        self.assertEqual(table.kinds(), list("zyx"))


NORTH_AND_SOUTH = [["nw"], ["ne"], ["w"], ["same"], ["e"], ["sw"], ["n", "s"], ["se"]]


class Coarser(Checks):
    def check_blocks(self, table, blocks, made):
        """The made table's kinds are the blocks: same, backs and steps as [8] tells them."""
        block = {name: set(told) for name, told in zip(made.kinds(), blocks)}
        self.assertEqual(len(made), len(blocks))
        self.assertEqual(block[made.same], {table.same})
        for one in made.kinds():
            self.assertEqual(block[made.back(one)], {table.back(kind) for kind in block[one]})
            for other in made.kinds():
                step = {kind for x in block[one] for y in block[other] for kind in table.step(x, y)}
                self.assertEqual(made.step(one, other), [name for name in made.kinds() if block[name] & step])

    def check_lawful(self, table, blocks):
        names = [f"x{letter}" for letter in "abcdefghijklm"[:len(blocks)]]
        made = coarser(table, blocks, names)
        self.assertIsInstance(made, Table)
        self.assertEqual(made.kinds(), names)
        self.check_blocks(table, blocks, made)

    def test_lawful_partings(self):
        self.check_lawful(built("moments"), [["same"], ["ahead", "behind"]])
        self.check_lawful(built("moments"), [["behind"], ["same"], ["ahead"]])
        self.check_lawful(built("branches"), [["up", "down", "apart"], ["same"]])
        self.check_lawful(built("courses"), [["nw", "n", "ne", "w", "e", "sw", "s", "se"], ["same"]])
        self.check_lawful(Table(*ring(7)), [[name] for name in Table(*ring(7)).kinds()])
        self.check_lawful(Table(*ring(1)), [["kinda"]])
        self.check_lawful(Table(*triangle()), [["left", "right"], ["same"], ["flipa", "flipb", "flipc"]])

    def test_text(self):
        made = coarser(built("moments"), [["behind", "ahead"], ["same"]], ["other", "same"])
        rows = ["kinds other same", "same same", "back other other", "back same same"]
        rows += ["step other other = other same", "step other same = other"]
        rows += ["step same other = other", "step same same = same"]
        self.assertEqual(str(made), "\n".join(rows))

    def test_each_kind_alone_is_the_table(self):
        for word in WORDS:
            table = built(word)
            self.assertEqual(coarser(table, [[kind] for kind in table.kinds()], table.kinds()), table)

    def test_blocks_in_any_order_and_kinds_in_any_order(self):
        table = built("courses")
        for blocks in itertools.permutations([["w", "e"], ["same"], ["ne", "sw"], ["nw", "s"], ["se", "n"]]):
            self.check_lawful(table, list(blocks))
            self.check_lawful(table, [block[::-1] for block in blocks])

    def test_a_kind_twice_in_a_block_is_there_once(self):
        blocks = [["same", "same"], ["behind", "ahead", "behind", "ahead"]]
        self.assertEqual(
            coarser(built("moments"), blocks, ["same", "other"]),
            coarser(built("moments"), [["same"], ["ahead", "behind"]], ["same", "other"]),
        )
        self.assertEqual(blocks, [["same", "same"], ["behind", "ahead", "behind", "ahead"]])

    def test_unlawful(self):
        self.check_unlawful(built("courses"), NORTH_AND_SOUTH, list("hgfedcba"))
        self.check_unlawful(built("courses"), NORTH_AND_SOUTH[::-1], list("abcdefgh"))
        blocks = [["left", "right"], ["flipc"], ["same"], ["flipa"], ["flipb"]]
        self.check_unlawful(Table(*triangle()), blocks, ["turn", "c", "same", "a", "b"])

    def check_unlawful(self, table, blocks, names):
        with self.assertRaises(Unlawful) as caught:
            coarser(table, blocks, names)
        first = self.first_row_fault(table, blocks, names)
        self.assertEqual((caught.exception.rule, caught.exception.names), ("row", first))

    def first_row_fault(self, table, blocks, names):
        """Drawn together backs, same and turns hold always, so row alone can fail."""
        block = dict(zip(names, blocks))

        def step(ones, others):
            told = {kind for one in ones for other in others for kind in table.steps(block[one], block[other])}
            return [name for name in names if told & set(block[name])]

        for a, b, c in itertools.product(names, repeat=3):
            if step(step([a], [b]), [c]) != step([a], step([b], [c])):
                return (a, b, c)
        return None

    def test_of_each_small_parting(self):
        for table in (built("moments"), built("branches"), built("parts"), Table(*ring(5)), Table(*triangle())):
            for blocks in partings(table.kinds()):
                self.check_any(table, blocks)

    def check_any(self, table, blocks):
        names = [f"x{letter}" for letter in "abcdefghijklm"[:len(blocks)]]
        backs = [sorted(table.back(kind) for kind in block) for block in blocks]
        if [table.same] not in blocks or not all(back in [sorted(block) for block in blocks] for back in backs):
            with self.assertRaises(BadKinds):
                coarser(table, blocks, names)
        elif self.first_row_fault(table, blocks, names):
            self.check_unlawful(table, blocks, names)
        else:
            self.check_lawful(table, blocks)

    def test_bad_kinds(self):
        table = built("branches")
        for blocks in (
            [],
            [["same"]],
            [["same"], ["up", "down"]],
            [["up", "down", "apart"]],
            [["same"], ["up", "down", "apart"], ["apart"]],
            [["same"], ["up", "down", "apart"], ["same"]],
            [["same"], ["same", "up", "down", "apart"]],
            [["same"], ["up", "down"], ["apart"], ["apart"]],
            [["same"], ["up", "down"], ["apart"], []],
            [[], ["same"], ["up", "down"], ["apart"]],
            [["same", "up"], ["down", "apart"]],
            [["same", "apart"], ["up", "down"]],
            [["same", "up", "down", "apart"]],
            [["same"], ["up", "apart"], ["down"]],
            [["same"], ["up"], ["down", "apart"]],
        ):
            names = list("abcdefgh")[:len(blocks)]
            with self.assertRaises(BadKinds, msg=blocks):
                coarser(table, blocks, names)

    def test_no_kind(self):
        for blocks, name in (
            ([["same"], ["up", "odd", "even"], ["strange"]], "odd"),
            ([["same"], ["up", "down"], ["apart"], ["Apart"]], "Apart"),
            ([[""]], ""),
        ):
            with self.assertRaises(NoKind) as caught:
                coarser(built("branches"), blocks, ["w", "x", "y", "z"][:len(blocks)])
            self.assertEqual(caught.exception.name, name)

    def test_the_first_refusal_goes(self):
        table = built("courses")
        for bad in ([[], ["same"], ["odd"]], [["same", "same", "n"], ["same"], ["odd"]], [["odd"]]):
            for names in (["a", "b", "c"], ["a"], "odd", []):
                with self.assertRaises(NoKind):
                    coarser(table, bad, names)
        for bad in ([], [[]], [["same"]], [["same", "n"]], NORTH_AND_SOUTH + [[]]):
            for names in (["Bad"], "odd", [], ["a"] * len(bad)):
                with self.assertRaises(BadKinds):
                    coarser(table, bad, names)
        self.check_bad_names(
            lambda names: coarser(built("moments"), [["ahead", "behind"], ["same"]], names), ["other", "same"])
        for way, spoil in BAD_NAMES.items():
            with self.assertRaises(BadTable, msg=way) as caught:
                coarser(table, NORTH_AND_SOUTH, spoil(list("abcdefgh")))
            self.assertEqual(caught.exception.row, -1)

    def test_by_name(self):
        told = {"names": ["s", "o"], "blocks": [["same"], ["ahead", "behind"]], "table": built("moments")}
        self.assertEqual(coarser(**told), coarser(told["table"], told["blocks"], told["names"]))

    def test_lists_stay_and_are_not_kept(self):
        blocks, names = [["behind", "ahead"], ["same"]], ["other", "same"]
        table = coarser(built("moments"), blocks, names)
        self.assertEqual((blocks, names), ([["behind", "ahead"], ["same"]], ["other", "same"]))
        blocks[0].clear()
        blocks.clear()
        names.clear()
        self.assertEqual(table, coarser(built("moments"), [["behind", "ahead"], ["same"]], ["other", "same"]))


def partings(kinds):
    """Each way to part a list into blocks."""
    if not kinds:
        return [[]]
    first, rest = kinds[0], kinds[1:]
    told = []
    for blocks in partings(rest):
        told.append([[first]] + blocks)
        told += [blocks[:at] + [[first] + block] + blocks[at + 1:] for at, block in enumerate(blocks)]
    return told


class Stays(unittest.TestCase):
    def test_the_tables_they_are_made_of(self):
        table, other = Table(*moments()), Table(*ring(2))
        paired(table, other)
        turned(table)
        renamed(table, ["x", "y", "z"])
        coarser(table, [["same"], ["ahead", "behind"]], ["x", "y"])
        self.assertEqual((table, other), (Table(*moments()), Table(*ring(2))))


if __name__ == "__main__":
    unittest.main()
