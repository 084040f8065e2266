"""What a name is, and what can be the kinds of a table."""

LETTERS = "abcdefghijklmnopqrstuvwxyz"
LONGEST = 8
MOST_KINDS = 13


def is_name(word):
    """Whether anything at all that is handed in is a name."""
    if not isinstance(word, str) or not 1 <= len(word) <= LONGEST:
        return False
    return all([sign in LETTERS for sign in word])


def are_kinds(names):
    """Whether anything at all that is handed in is a list of names that a table can have."""
    if not isinstance(names, list) or not 1 <= len(names) <= MOST_KINDS:
        return False
    return all([is_name(name) for name in names]) and len(set(names)) == len(names)
