"""What several tests need. What the document says is said here once more, apart from the program."""

from copy import deepcopy
from functools import lru_cache
from itertools import combinations, product

TOP = 10 ** 18
SPOILT = "spoilt"


def subsets(badges):
    """All lists of some of the badges, each in the order of the badges."""
    return [list(some) for size in range(len(badges) + 1) for some in combinations(badges, size)]


def is_pattern(numbers):
    """Each number is from 0 to one more than the greatest ahead of it, the first one 0."""
    return all(0 <= number <= max(numbers[:place], default=-1) + 1 for place, number in enumerate(numbers))


@lru_cache(maxsize=None)
def patterns(count):
    """All patterns of so many steps, as tuples."""
    return tuple(row for row in product(range(count), repeat=count) if is_pattern(row))


def ties_of(count):
    """All ties of so many steps."""
    return [
        (word, bound, tuple(steps))
        for steps in subsets(range(count)) if steps for word in ("most", "least") for bound in range(1, 7)
    ]


def keeps_by_words(hands, tie):
    word, bound, steps = tie
    doers = {hands[step] for step in steps}
    return {"most": len(doers) <= bound, "least": len(doers) >= bound}[word]


def is_plan_by_words(may, ties, hands):
    if len(hands) != len(may):
        return False
    return all(map(list.__contains__, may, hands)) and all(keeps_by_words(hands, tie) for tie in ties)


def has_plan_by_words(may, ties):
    """Whether one of all choices of hands is a plan."""
    return any(is_plan_by_words(may, ties, hands) for hands in product(*may))


@lru_cache(maxsize=None)
def breaks_by_words(count, pattern, tie):
    """Whether no hands of so many steps whose shape begins with the pattern (a tuple) keep the tie."""
    begun = [row for row in patterns(count) if row[:len(pattern)] == pattern]
    return not any(keeps_by_words(row, tie) for row in begun)


def pools_by_words(pattern, may):
    badges = sorted(set().union(*may))
    blocks = sorted(set(pattern))
    return [
        [badge for badge in badges if all(badge in may[step] for step, number in enumerate(pattern) if number == block)]
        for block in blocks
    ]


def shows_by_words(may, ties, paper, pattern=()):
    """Whether the paper shows for the pattern (a tuple), by the words of the three ways."""
    if type(paper) is not tuple or len(paper) != 2 or type(paper[0]) is not str:
        return False
    word, rest = paper
    if word == "tie":
        return type(rest) is int and rest in range(len(ties)) and breaks_by_words(len(may), pattern, ties[rest])
    if word == "short":
        if type(rest) is not list or any(type(block) is not int for block in rest):
            return False
        if rest != sorted(set(rest)) or not set(rest) <= set(pattern):
            return False
        pools = pools_by_words(pattern, may)
        return len(set().union(*[pools[block] for block in rest])) < len(rest)
    if word == "split":
        longer = [row for row in patterns(len(pattern) + 1) if row[:-1] == pattern]
        if len(pattern) >= len(may) or type(rest) is not list or len(rest) != len(longer):
            return False
        return all(shows_by_words(may, ties, part, row) for part, row in zip(rest, longer))
    return False


def lists_in(thing):
    """All lists that the thing has in it, itself too if it is one."""
    found = [thing] if isinstance(thing, list) else []
    if isinstance(thing, (list, tuple)):
        for part in thing:
            found.extend(lists_in(part))
    return found


def spoil(thing):
    for one in lists_in(thing):
        one.append(SPOILT)


def check_own(test, deed, *handed):
    """What is handed in is neither changed nor kept, and what is told is the asker's own."""
    as_handed = deepcopy(handed)
    told = deed(*handed)
    test.assertEqual(repr(handed), repr(as_handed))
    own = [id(one) for one in lists_in(told)]
    test.assertEqual(len(set(own)), len(own), "a list stands at two places of what is told")
    spoil(told)
    test.assertEqual(repr(handed), repr(as_handed))
    again = deed(*handed)
    test.assertNotIn(SPOILT, repr(again))
    as_told = deepcopy(again)
    spoil(handed)
    test.assertEqual(repr(again), repr(as_told))
    test.assertNotIn(SPOILT, repr(deed(*as_handed)))
