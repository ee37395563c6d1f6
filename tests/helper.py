"""What several tests need."""

from itertools import combinations


def subsets(badges):
    """All lists of some of the badges, each in the order of the badges."""
    return [list(some) for size in range(len(badges) + 1) for some in combinations(badges, size)]
