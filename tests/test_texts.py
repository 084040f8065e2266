"""[5]: the text of a table, sign by sign, and the row that is told for any other text."""

import unittest

from kindweft.built import WORDS, built
from kindweft.errors import BadTable, Unlawful
from kindweft.tables import Table
from kindweft.texts import read_table
from tests.making import loose, moments, ring

MOMENTS = """kinds ahead same behind
same same
back ahead behind
back same same
back behind ahead
step ahead ahead = ahead
step ahead same = ahead
step ahead behind = ahead same behind
step same ahead = ahead
step same same = same
step same behind = behind
step behind ahead = ahead same behind
step behind same = behind
step behind behind = behind"""


class Written(unittest.TestCase):
    def test_moments(self):
        self.assertEqual(str(Table(*moments())), MOMENTS)

    def test_one_kind(self):
        table = Table(["x"], "x", ["x"], [[["x"]]])
        self.assertEqual(str(table), "kinds x\nsame x\nback x x\nstep x x = x")

    def test_two_kinds(self):
        table = Table(["s", "a"], "s", ["s", "a"], [[["s"], ["a"]], [["a"], ["a", "s"]]])
        self.assertEqual(
            str(table),
            "kinds s a\nsame s\nback s s\nback a a\nstep s s = s\nstep s a = a\nstep a s = a\nstep a a = s a",
        )

    def test_steps_handed_in_anyhow_are_written_in_order(self):
        names, same, backs, steps = moments()
        steps[0][2] = ["behind", "behind", "same", "ahead"]
        self.assertEqual(str(Table(names, same, backs, steps)), MOMENTS)


class ReadBack(unittest.TestCase):
    def check(self, table):
        read = read_table(str(table))
        self.assertIsInstance(read, Table)
        self.assertEqual(read, table)
        self.assertEqual(str(read), str(table))

    def test_rings(self):
        for size in range(1, 14):
            self.check(Table(*ring(size)))

    def test_built(self):
        for word in WORDS:
            self.check(built(word))

    def test_words_of_the_text_as_kinds(self):
        names = ["same", "kinds", "step", "back"]
        turned = [names[-place % 4] for place in range(4)]
        steps = [[[names[(one + other) % 4]] for other in range(4)] for one in range(4)]
        self.check(Table(names, "same", turned, steps))
        self.check(Table(["kinds", "same"], "kinds", ["kinds", "same"],
                         [[["kinds"], ["same"]], [["same"], ["kinds"]]]))

    def test_by_name(self):
        self.assertEqual(read_table(text=MOMENTS), Table(*moments()))


class BadRows(unittest.TestCase):
    def check(self, text, row):
        with self.assertRaises(BadTable) as caught:
            read_table(text)
        self.assertEqual(caught.exception.row, row, text)

    def with_row(self, at, row):
        rows = MOMENTS.split("\n")
        rows[at] = row
        self.check("\n".join(rows), at)

    def test_empty_text(self):
        self.check("", 0)
        self.check("\n", 0)
        self.check(" ", 0)

    def test_each_row_that_lacks_at_the_end(self):
        rows = MOMENTS.split("\n")
        for many in range(1, len(rows)):
            self.check("\n".join(rows[:many]), many)
            self.check("\n".join(rows[:many]) + "\n", many)

    def test_each_row_left_out(self):
        rows = MOMENTS.split("\n")
        for at in range(len(rows)):
            self.check("\n".join(rows[:at] + rows[at + 1:]), at)

    def test_each_row_doubled(self):
        rows = MOMENTS.split("\n")
        for at in range(len(rows)):
            self.check("\n".join(rows[:at + 1] + rows[at:]), at + 1)

    def test_rows_too_many(self):
        self.check(MOMENTS + "\n", 14)
        self.check(MOMENTS + "\n\n", 14)
        self.check(MOMENTS + "\nstep behind behind = behind", 14)
        self.check(MOMENTS + "\n" + MOMENTS, 14)
        self.check("kinds x\nsame x\nback x x\nstep x x = x\n", 4)

    def test_row_ahead_of_all(self):
        self.check("\n" + MOMENTS, 0)

    def test_a_blank_too_many_in_each_row(self):
        for at, row in enumerate(MOMENTS.split("\n")):
            self.with_row(at, row + " ")
            self.with_row(at, " " + row)
            for place, sign in enumerate(row):
                if sign == " ":
                    self.with_row(at, row[:place] + " " + row[place:])

    def test_a_blank_that_lacks_in_each_row(self):
        for at, row in enumerate(MOMENTS.split("\n")):
            for place, sign in enumerate(row):
                if sign == " ":
                    self.with_row(at, row[:place] + row[place + 1:])

    def test_empty_rows(self):
        for at in range(14):
            self.with_row(at, "")

    def test_kinds(self):
        for row in ("kinds", "kinds ", "kind ahead same behind", "Kinds ahead same behind", "ahead same behind",
                    "kinds ahead same ahead", "kinds ahead same behind ahead", "kinds ahead Same behind",
                    "kinds ahead same behind2", "kinds ahead same ninechars", "kinds ahead same =",
                    "kinds = ahead same behind"):
            self.with_row(0, row)

    def test_too_many_kinds(self):
        names, same, backs, steps = ring(14)
        rows = [" ".join(["kinds"] + names), f"same {same}"]
        rows += [f"back {name} {back}" for name, back in zip(names, backs)]
        rows += [f"step {one} {other} = {steps[a][b][0]}" for a, one in enumerate(names)
                 for b, other in enumerate(names)]
        self.check("\n".join(rows), 0)

    def test_same(self):
        for row in ("same", "same odd", "same same same", "Same same", "same = same", "same Same", "back same same"):
            self.with_row(1, row)

    def test_back(self):
        for row in ("back", "back same", "back ahead same", "back same odd", "back odd same", "back same same same",
                    "back same = same", "Back same same", "step same same = same"):
            self.with_row(3, row)

    def test_step(self):
        for row in ("step", "step ahead behind", "step ahead behind ahead same behind", "step ahead behind == ahead",
                    "step behind ahead = ahead same behind", "step ahead ahead = ahead same behind",
                    "step ahead behind = odd", "step ahead behind = ahead same behind odd",
                    "step ahead behind = =", "step ahead behind = ahead, same", "Step ahead behind = ahead same behind",
                    "step ahead behind= ahead same behind", "back ahead behind"):
            self.with_row(7, row)

    def test_names_out_of_order_or_doubled_in_a_step(self):
        for kinds in ("same ahead", "ahead behind same", "behind same ahead", "ahead ahead", "ahead same same behind",
                      "ahead same behind behind", "ahead same behind ahead"):
            self.with_row(7, "step ahead behind = " + kinds)

    def test_an_empty_step_with_a_blank(self):
        self.with_row(7, "step ahead behind = ")

    def test_the_first_wrong_row_goes(self):
        rows = MOMENTS.split("\n")
        rows[4] = "back behind odd"
        rows[9] = "step same same = odd"
        self.check("\n".join(rows), 4)
        self.check("\n".join(rows + ["too many"]), 4)
        self.check("\n".join(rows[:8]), 4)
        rows[1] = ""
        self.check("\n".join(rows), 1)
        rows[0] = "kinds a"
        self.check("\n".join(rows), 1)


class UnlawfulTexts(unittest.TestCase):
    def check(self, text, rule, names):
        with self.assertRaises(Unlawful) as caught:
            read_table(text)
        self.assertEqual((caught.exception.rule, caught.exception.names), (rule, names))

    def with_rows(self, changes):
        rows = MOMENTS.split("\n")
        for at in changes:
            rows[at] = changes[at]
        return "\n".join(rows)

    def test_back_and_own(self):
        self.check(self.with_rows({2: "back ahead ahead"}), "back", ("behind",))
        self.check(self.with_rows({2: "back ahead same", 3: "back same ahead", 4: "back behind behind"}),
                   "own", ("same",))

    def test_same(self):
        self.check(self.with_rows({1: "same ahead", 2: "back ahead ahead", 4: "back behind behind"}),
                   "same", ("same",))

    def test_an_empty_step(self):
        self.check(self.with_rows({9: "step same same ="}), "same", ("same",))
        self.check(self.with_rows({13: "step behind behind ="}), "turn", ("ahead", "behind", "behind"))
        self.check("kinds x\nsame x\nback x x\nstep x x =", "same", ("x",))

    def test_turn(self):
        self.check(self.with_rows({5: "step ahead ahead = ahead same"}), "turn", ("ahead", "ahead", "same"))

    def test_row(self):
        names, same, backs, steps = loose()
        rows = [" ".join(["kinds"] + names), f"same {same}"]
        rows += [f"back {name} {back}" for name, back in zip(names, backs)]
        rows += [" ".join(["step", one, other, "="] + steps[a][b]) for a, one in enumerate(names)
                 for b, other in enumerate(names)]
        self.check("\n".join(rows), "row", ("a", "a", "b"))

    def test_bad_rows_go_ahead_of_unlawful(self):
        with self.assertRaises(BadTable) as caught:
            read_table(self.with_rows({2: "back ahead ahead", 13: "step behind behind = behind odd"}))
        self.assertEqual(caught.exception.row, 13)
        with self.assertRaises(BadTable) as caught:
            read_table(self.with_rows({2: "back ahead ahead"}) + "\n")
        self.assertEqual(caught.exception.row, 14)


if __name__ == "__main__":
    unittest.main()
