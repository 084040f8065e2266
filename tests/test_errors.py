"""The error classes: what each is straight under, its attributes and its word."""

import unittest

from kindweft import errors

PLAIN = ("BadName", "BadKinds", "Taken", "Full", "BadSaying", "Unlike")
WITH_ROW = ("BadTable", "BadPage")
WITH_NAME = ("NoKind", "NoThing", "NoTable")


def made(word, *told):
    return getattr(errors, word)(*told)


class StraightUnder(unittest.TestCase):
    def check(self, word, base):
        self.assertEqual(getattr(errors, word).__bases__, (base,))

    def test_tops(self):
        self.check("WeftError", ValueError)
        self.check("Missing", LookupError)
        self.check("NothingBack", RuntimeError)
        self.check("Broken", RuntimeError)

    def test_under_weft_error(self):
        for word in PLAIN + WITH_ROW + ("Unlawful",):
            self.check(word, errors.WeftError)

    def test_under_missing(self):
        for word in WITH_NAME + ("NoSaying", "NoStanding"):
            self.check(word, errors.Missing)

    def test_no_other_classes(self):
        classes = [name for name, held in vars(errors).items() if isinstance(held, type)]
        expected = PLAIN + WITH_ROW + WITH_NAME + (
            "WeftError", "Unlawful", "Missing", "NoSaying", "NoStanding", "NothingBack", "Broken",
        )
        self.assertEqual(sorted(classes), sorted(expected))


class Attributes(unittest.TestCase):
    def test_plain(self):
        for word in PLAIN + ("WeftError", "Missing", "NothingBack"):
            self.assertEqual(made(word).word, word)

    def test_row(self):
        for word in WITH_ROW:
            error = made(word, 4)
            self.assertEqual((error.word, error.row), (word, 4))

    def test_unlawful(self):
        error = errors.Unlawful("turn", ("a", "b", "c"))
        self.assertEqual((error.word, error.rule, error.names), ("Unlawful", "turn", ("a", "b", "c")))

    def test_name(self):
        for word in WITH_NAME:
            error = made(word, "odd")
            self.assertEqual((error.word, error.name), (word, "odd"))

    def test_number_at_most(self):
        self.assertEqual((made("NoSaying", 7).word, made("NoSaying", 7).number), ("NoSaying", 7))
        self.assertEqual((made("NoStanding", -1).word, made("NoStanding", -1).at), ("NoStanding", -1))
        self.assertEqual((made("Broken", 0).word, made("Broken", 0).most), ("Broken", 0))

    def test_by_name(self):
        self.assertEqual(errors.BadTable(row=2).row, 2)
        self.assertEqual(errors.BadPage(row=2).row, 2)
        self.assertEqual(errors.Unlawful(rule="own", names=("a",)).names, ("a",))
        self.assertEqual(errors.NoKind(name="a").name, "a")
        self.assertEqual(errors.NoSaying(number=3).number, 3)
        self.assertEqual(errors.NoStanding(at=3).at, 3)
        self.assertEqual(errors.Broken(most=3).most, 3)

    def test_a_message_can_be_read(self):
        for error in (made("BadTable", -1), made("NoKind", "a"), made("Full"), made("Broken", 3)):
            self.assertTrue(str(error))


if __name__ == "__main__":
    unittest.main()
