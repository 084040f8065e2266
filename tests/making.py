"""Parts of tables for the tests, as lists that each call makes anew."""

LETTERS = "abcdefghijklmnopqrstuvwxyz"


def ring(size):
    """The table of a ring of so many kinds: a step is the sum of two places. It is lawful for any size."""
    names = [f"kind{LETTERS[place]}" for place in range(size)]
    backs = [names[-place % size] for place in range(size)]
    steps = [[[names[(one + other) % size]] for other in range(size)] for one in range(size)]
    return [names, names[0], backs, steps]


def moments():
    """The parts of the table of moments, written out."""
    every = ["ahead", "same", "behind"]
    return [
        ["ahead", "same", "behind"],
        "same",
        ["behind", "same", "ahead"],
        [
            [["ahead"], ["ahead"], list(every)],
            [["ahead"], ["same"], ["behind"]],
            [list(every), ["behind"], ["behind"]],
        ],
    ]


def loose():
    """Two own backs beside same whose steps are empty but for same's: it fails at row alone."""
    return [
        ["a", "same", "b"],
        "same",
        ["a", "same", "b"],
        [
            [["same"], ["a"], []],
            [["a"], ["same"], ["b"]],
            [[], ["b"], ["same"]],
        ],
    ]
