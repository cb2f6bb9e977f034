"""Pairs of a left and a right number: the most of which no two share a side, and the fewest numbers in all of them."""


def greatest_matching(pairs):
    """The sorted list of as many of the pairs as can be, no two of which share a side."""
    rights = {}
    for left, right in pairs:
        rights[left] = rights.get(left, []) + [right]
    taken = {}
    for left in sorted(rights):
        _take(left, rights, taken, {})
    return sorted([(left, right) for right, left in taken.items()])


def _take(left, rights, taken, tried):
    """Whether the left number gets a right one, perhaps by giving others to those that had taken them."""
    for right in rights[left]:
        if right not in tried:
            tried[right] = True
            if right not in taken or _take(taken[right], rights, taken, tried):
                taken[right] = left
                return True
    return False


def first_cover(pairs):
    """The first one, sorted, of the shortest lists of tuples (side, number) such that each pair has one of them."""
    left_over, many = list(pairs), len(greatest_matching(pairs))
    cover = []
    for side in (0, 1):
        for number in sorted(set([pair[side] for pair in pairs])):
            rest = [pair for pair in left_over if pair[side] != number]
            # As many numbers are needed as pairs can be matched, so this one helps if fewer can be without it.
            if len(greatest_matching(rest)) < many:
                cover.append((side, number))
                left_over, many = rest, many - 1
    return cover
