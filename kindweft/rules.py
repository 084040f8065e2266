"""The rules of a lawful table, over places of kinds instead of their names.

backs has the place of each kind's back, grid for each two kinds their step as a set.
Each rule gives None, or the tuple of its word and the first places at which it fails.
"""

from kindweft.sets import places_in


def first_fault(same, backs, grid):
    """The first rule that fails, with its places, or None."""
    return (
        back_fault(backs)
        or own_fault(same, backs)
        or same_fault(same, grid)
        or turn_fault(backs, grid)
        or row_fault(grid)
    )


def back_fault(backs):
    for one, back in enumerate(backs):
        if backs[back] != one:
            return ("back", one)
    return None


def own_fault(same, backs):
    if backs[same] != same:
        return ("own", same)
    return None


def same_fault(same, grid):
    for one in range(len(grid)):
        if grid[same][one] != 1 << one or grid[one][same] != 1 << one:
            return ("same", one)
    return None


def turn_fault(backs, grid):
    places = list(range(len(grid)))
    for one in places:
        for other in places:
            for third in places:
                told = grid[one][other] >> third & 1
                first = grid[third][backs[other]] >> one & 1
                second = grid[backs[one]][third] >> other & 1
                if told != first or told != second:
                    return ("turn", one, other, third)
    return None


def row_fault(grid):
    # Each step is looked at once for every third kind: its places are taken out of the set but once.
    steps = [[places_in(held) for held in row] for row in grid]
    places = list(range(len(grid)))
    for one in places:
        for other in places:
            for third in places:
                left = right = 0
                for place in steps[one][other]:
                    left |= grid[place][third]
                for place in steps[other][third]:
                    right |= grid[one][place]
                if left != right:
                    return ("row", one, other, third)
    return None
