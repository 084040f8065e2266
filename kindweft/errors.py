"""The refusals of the package, each a class of its own."""


class WeftError(ValueError):
    """What is handed in cannot be taken as it is."""

    def __init__(self, message="refused"):
        ValueError.__init__(self, message)
        self.word = "WeftError"


class BadTable(WeftError):
    """No table has this form; row is the number of the first wrong row, or -1 where there are no rows."""

    def __init__(self, row):
        WeftError.__init__(self, f"no table has this form: row {row}")
        self.word = "BadTable"
        self.row = row


class Unlawful(WeftError):
    """The table breaks a rule, first at these names."""

    def __init__(self, rule, names):
        where = " ".join(names)
        WeftError.__init__(self, f"the table breaks the rule {rule} at {where}")
        self.word = "Unlawful"
        self.rule = rule
        self.names = tuple(names)


class BadName(WeftError):
    """A word that is no name."""

    def __init__(self, message="no name"):
        WeftError.__init__(self, message)
        self.word = "BadName"


class BadKinds(WeftError):
    """Blocks of kinds that do not part a table's kinds as they must."""

    def __init__(self, message="no such parting of kinds"):
        WeftError.__init__(self, message)
        self.word = "BadKinds"


class Taken(WeftError):
    """The name is in use."""

    def __init__(self, message="the name is taken"):
        WeftError.__init__(self, message)
        self.word = "Taken"


class Full(WeftError):
    """There is no room for more."""

    def __init__(self, message="no room for more"):
        WeftError.__init__(self, message)
        self.word = "Full"


class BadSaying(WeftError):
    """A saying that tells no kinds."""

    def __init__(self, message="a saying tells one kind at least"):
        WeftError.__init__(self, message)
        self.word = "BadSaying"


class Unlike(WeftError):
    """Two things that must be alike are not."""

    def __init__(self, message="they are not alike"):
        WeftError.__init__(self, message)
        self.word = "Unlike"


class BadPage(WeftError):
    """No page has this form; row is the number of the first wrong row."""

    def __init__(self, row):
        WeftError.__init__(self, f"no page has this form: row {row}")
        self.word = "BadPage"
        self.row = row


class Missing(LookupError):
    """What is asked for is not there."""

    def __init__(self, message="not there"):
        LookupError.__init__(self, message)
        self.word = "Missing"


class NoKind(Missing):
    """The table has no kind of this name."""

    def __init__(self, name):
        Missing.__init__(self, f"no kind {name}")
        self.word = "NoKind"
        self.name = name


class NoThing(Missing):
    """The book has no thing of this name."""

    def __init__(self, name):
        Missing.__init__(self, f"no thing {name}")
        self.word = "NoThing"
        self.name = name


class NoTable(Missing):
    """No built table has this word."""

    def __init__(self, name):
        Missing.__init__(self, f"no table {name}")
        self.word = "NoTable"
        self.name = name


class NoSaying(Missing):
    """No standing saying has this number."""

    def __init__(self, number):
        Missing.__init__(self, f"no saying {number}")
        self.word = "NoSaying"
        self.number = number


class NoStanding(Missing):
    """There is no standing at this place."""

    def __init__(self, at):
        Missing.__init__(self, f"no standing at {at}")
        self.word = "NoStanding"
        self.at = at


class NothingBack(RuntimeError):
    """There is nothing to take back, or nothing to do again."""

    def __init__(self, message="nothing to take back"):
        RuntimeError.__init__(self, message)
        self.word = "NothingBack"


class Broken(RuntimeError):
    """A search was broken off behind so many cases."""

    def __init__(self, most):
        RuntimeError.__init__(self, f"broken off behind {most} cases")
        self.word = "Broken"
        self.most = most
