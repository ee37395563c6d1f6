"""What several tests need. What the document says is said here once more, apart from the program."""

from copy import deepcopy
from functools import lru_cache
from itertools import combinations, permutations, product

from deskround import errors

TOP = 10 ** 18
SPOILT = "spoilt"
MANY_FIGURES = 10 ** 3999 + 7


def subsets(badges):
    """All lists of some of the badges, each in the order of the badges."""
    return [list(some) for size in range(len(badges) + 1) for some in combinations(badges, size)]


def is_pattern(numbers):
    """Each number is from 0 to one more than the greatest ahead of it, the first one 0."""
    return all(0 <= number <= max(numbers[:place], default=-1) + 1 for place, number in enumerate(numbers))


@lru_cache(maxsize=None)
def patterns(count):
    """All patterns of so many steps, as tuples."""
    return tuple(row for row in product(range(count), repeat=count) if is_pattern(row))


def ties_of(count):
    """All ties of so many steps."""
    return [
        (word, bound, tuple(steps))
        for steps in subsets(range(count)) if steps for word in ("most", "least") for bound in range(1, 7)
    ]


def keeps_by_words(hands, tie):
    word, bound, steps = tie
    doers = {hands[step] for step in steps}
    return {"most": len(doers) <= bound, "least": len(doers) >= bound}[word]


def is_plan_by_words(may, ties, hands):
    if len(hands) != len(may):
        return False
    return all(map(list.__contains__, may, hands)) and all(keeps_by_words(hands, tie) for tie in ties)


def has_plan_by_words(may, ties):
    """Whether one of all choices of hands is a plan."""
    return any(is_plan_by_words(may, ties, hands) for hands in product(*may))


@lru_cache(maxsize=None)
def breaks_by_words(count, pattern, tie):
    """Whether no hands of so many steps whose shape begins with the pattern (a tuple) keep the tie."""
    begun = [row for row in patterns(count) if row[:len(pattern)] == pattern]
    return not any(keeps_by_words(row, tie) for row in begun)


def pools_by_words(pattern, may):
    badges = sorted(set().union(*may))
    blocks = sorted(set(pattern))
    return [
        [badge for badge in badges if all(badge in may[step] for step, number in enumerate(pattern) if number == block)]
        for block in blocks
    ]


def shows_by_words(may, ties, paper, pattern=()):
    """Whether the paper shows for the pattern (a tuple), by the words of the three ways."""
    if type(paper) is not tuple or len(paper) != 2 or type(paper[0]) is not str:
        return False
    word, rest = paper
    if word == "tie":
        return type(rest) is int and rest in range(len(ties)) and breaks_by_words(len(may), pattern, ties[rest])
    if word == "short":
        if type(rest) is not list or any(type(block) is not int for block in rest):
            return False
        if rest != sorted(set(rest)) or not set(rest) <= set(pattern):
            return False
        pools = pools_by_words(pattern, may)
        return len(set().union(*[pools[block] for block in rest])) < len(rest)
    if word == "split":
        longer = [row for row in patterns(len(pattern) + 1) if row[:-1] == pattern]
        if len(pattern) >= len(may) or type(rest) is not list or len(rest) != len(longer):
            return False
        return all(shows_by_words(may, ties, part, row) for part, row in zip(rest, longer))
    return False


def minutes_by_words(bill, hands):
    return sum(minutes for pairs, hand in zip(bill, hands) for badge, minutes in pairs if badge == hand)


def may_by_words(bill):
    return [sorted({badge for badge, minutes in pairs}) for pairs in bill]


def sums_by_words(pattern, bill):
    """Block by block the pairs (badge, sum), for a pattern that is a tuple."""
    told = []
    for block, pool in enumerate(pools_by_words(pattern, may_by_words(bill))):
        steps = [bill[step] for step, number in enumerate(pattern) if number == block]
        told.append([(badge, minutes_by_words(steps, [badge] * len(steps))) for badge in pool])
    return told


def keeps_below(prices, dues, pools):
    """Whether for each pair (badge, cost) of each pool its price less the badge's due is at most the cost."""
    return all(
        price - sum(due for badge, due in dues if badge == one) <= cost
        for price, pool in zip(prices, pools) for one, cost in pool
    )


def is_dues_by_words(dues):
    if type(dues) is not list or any(type(pair) is not tuple or len(pair) != 2 for pair in dues):
        return False
    if any(type(number) is not int for pair in dues for number in pair):
        return False
    badges = [badge for badge, due in dues]
    return badges == sorted(set(badges)) and all(1 <= badge <= TOP and due >= 0 for badge, due in dues)


def bears_by_words(bill, ties, bound, paper, pattern=()):
    """Whether the paper bears the bound for the pattern (a tuple), by the words of the four ways."""
    if type(paper) is not tuple or not paper or type(paper[0]) is not str:
        return False
    if paper[0] in ("tie", "short"):
        return shows_by_words(may_by_words(bill), ties, paper, pattern)
    if paper[0] == "split" and len(paper) == 2:
        longer = [row for row in patterns(len(pattern) + 1) if row[:-1] == pattern]
        if len(pattern) >= len(bill) or type(paper[1]) is not list or len(paper[1]) != len(longer):
            return False
        return all(bears_by_words(bill, ties, bound, part, row) for part, row in zip(paper[1], longer))
    if paper[0] == "dear" and len(paper) == 3:
        prices, dues = paper[1:]
        if type(prices) is not list or any(type(price) is not int for price in prices) or not is_dues_by_words(dues):
            return False
        if len(prices) != len(set(pattern)) or not keeps_below(prices, dues, sums_by_words(pattern, bill)):
            return False
        return sum(prices) >= bound + sum(due for badge, due in dues)
    return False


def fewest_minutes(bill, ties):
    """The fewest minutes of all plans, with every choice of hands tried; None where there is no plan."""
    may = may_by_words(bill)
    plans = [hands for hands in product(*may) if is_plan_by_words(may, ties, hands)]
    return min([minutes_by_words(bill, hands) for hands in plans], default=None)


def held_by_words(may, done):
    return [badges if hand is None else [hand] for badges, hand in zip(may, done)]


def is_ring_by_words(order, steps):
    """Whether these are unlike steps, each ahead of the next one, the last one ahead of the first one."""
    steps = list(steps)
    return len(set(steps)) == len(steps) > 0 and set(zip(steps, steps[1:] + steps[:1])) <= set(order)


def has_ring_by_words(count, order):
    """Whether one of all rows of unlike steps is a ring."""
    rows = [row for size in range(1, count + 1) for row in permutations(range(count), size)]
    return any(is_ring_by_words(order, row) for row in rows)


def done_steps(done):
    return [step for step, hand in enumerate(done) if hand is not None]


def is_done_of_order(order, done):
    """Whether each done step has all steps ahead of it done, too."""
    return all(done[ahead] is not None for ahead, behind in order if done[behind] is not None)


def strikes_by_words(order, done):
    """All sets of strikes, those with fewer members first, as many in the order of lists."""
    sets = [some for some in subsets(done_steps(done)) if is_strikes_by_words(order, done, some)]
    return sorted(sets, key=lambda some: (len(some), some))


def is_strikes_by_words(order, done, some):
    return all(step in some for step in done_steps(done) for member in some if (member, step) in order)


def lists_in(thing):
    """All lists that the thing has in it, itself too if it is one."""
    found = [thing] if isinstance(thing, list) else []
    if isinstance(thing, (list, tuple)):
        for part in thing:
            found.extend(lists_in(part))
    return found


def spoil(thing):
    for one in lists_in(thing):
        one.append(SPOILT)


def check_own(test, deed, *handed):
    """What is handed in is neither changed nor kept, and what is told is the asker's own."""
    as_handed = deepcopy(handed)
    told = deed(*handed)
    test.assertEqual(repr(handed), repr(as_handed))
    own = [id(one) for one in lists_in(told)]
    test.assertEqual(len(set(own)), len(own), "a list stands at two places of what is told")
    spoil(told)
    test.assertEqual(repr(handed), repr(as_handed))
    again = deed(*handed)
    test.assertNotIn(SPOILT, repr(again))
    as_told = deepcopy(again)
    spoil(handed)
    test.assertEqual(repr(again), repr(as_told))
    test.assertNotIn(SPOILT, repr(deed(*as_handed)))


REFUSALS = [
    one for one in vars(errors).values()
    if isinstance(one, type) and issubclass(one, errors.DeskError) and one is not errors.DeskError
]


def check_refused(test, refusal, deed, *handed):
    """The deed is refused with this class, which is taken as DeskError and ValueError and as no other refusal."""
    as_handed = repr(handed)
    for taken_as in (refusal, errors.DeskError, ValueError):
        with test.assertRaises(taken_as) as caught:
            deed(*handed)
        test.assertEqual([one for one in REFUSALS if isinstance(caught.exception, one)], [refusal])
        test.assertEqual(repr(handed), as_handed)


def some_tie(chance, count):
    steps = tuple(sorted(chance.sample(range(count), chance.randint(1, count))))
    # Mostly a bound that the steps can keep, seldom any.
    bound = chance.randint(1, len(steps)) if chance.random() < 0.95 else chance.randint(1, 6)
    return (chance.choice(("most", "least")), bound, steps)


def some_bill(chance, count, most):
    """A bill of so many steps with at most so many badges a step, of up to twenty."""
    badges = sorted(chance.sample(range(1, 100), chance.randint(1, 19)) + [TOP])
    size = min(chance.choice((2, 3, most)), len(badges))
    low, top = chance.choice(((0, 0), (1, 1), (0, 1), (0, 3), (1, 60), (0, TOP), (TOP - 2, TOP)))
    least = 0 if chance.random() < 0.1 else 1
    return [
        [(badge, chance.randint(low, top)) for badge in sorted(chance.sample(badges, chance.randint(least, size)))]
        for step in range(count)
    ]


def some_order(chance, count, most):
    """An order of so many steps without a ring, of at most so many pairs, some perhaps twice."""
    row = chance.sample(range(count), count)
    pairs = list(combinations(row, 2))
    return [chance.choice(pairs) for number in range(chance.randint(0, most))] if pairs else []


def some_done(chance, order, lists, share):
    """A done in which each done step has all steps ahead of it done, with hands from the lists, one for each step."""
    done = [None] * len(lists)
    # Steps that are not done ahead of all others hold back what is behind them.
    never = [step for step in range(len(lists)) if chance.random() >= share]
    for turn in lists:
        for step, badges in enumerate(lists):
            if step not in never and all(done[ahead] is not None for ahead, behind in order if behind == step):
                done[step] = chance.choice(badges)
    return done


def nested(depth):
    """A paper in which so many split papers lie within one another."""
    paper = ("tie", 0)
    for number in range(depth):
        paper = ("split", [paper])
    return paper


def deep(depth, make):
    thing = make(0)
    for number in range(depth):
        thing = make(thing)
    return thing


# Things that are no papers of any may and ties.
OTHER_THINGS = [
    0, 1, -1, 2, TOP, MANY_FIGURES, -MANY_FIGURES, "", " ", "tie", "tie 0", "short", "split", "ti", "\t\n~",
    "ab" * 2000, None, True, False, [], (), [[]], ((),), ([],), [()], [[], []], ((), ()), [None], (None,), (None, None),
    (True, 0), (0, "tie"), (0, 0), (1, []), ("tie",), ("short",), ("split",), ["tie"], ["tie", 0], ["short", [0]],
    ["split", [("tie", 0)]], ("tie", 0, 0), ("tie", 0, None), ("tie", 0, []), ("split", [("tie", 0)], []),
    ("split", [("tie", 0)], 0), (("tie", 0),), [("tie", 0)], (("tie", 0), ("tie", 0)), ("tie", ("tie", 0)),
    ("tie", [0]), ("tie", (0,)), ("tie", "0"), ("tie", ""), ("tie", None), ("tie", True), ("tie", -1), ("tie", TOP),
    ("tie", MANY_FIGURES), ("tie", -MANY_FIGURES), ("tie", []), ("tie", ()), (["tie"], 0), (("tie",), 0), ("Tie", 0),
    ("TIE", 0), ("tie ", 0), (" tie", 0), ("tie\n", 0), ("ties", 0), ("t", 0), ("", 0), ("dear", 0), ("dear", []),
    ("dear", [], []), ("dear",), ("dear", [], [], []), ["dear", [], []], ("dear", (), []), ("dear", [], ()),
    ("dear", None, None), ("dear", [], None), ("dear", [], 0), ("dear", [], ""), ("dear", "", []), ("Dear", [], []),
    ("dear", ([], [])), ("dear", [[]], []), ("dear", [], [[]]), ("dear", [], [()]), ("dear", [None], []),
    ("plan", [1]), ("none", ("tie", 0)), ("split", ("tie", 0)), ("split", (("tie", 0),)),
    ("split", []), ("split", [[]]), ("split", [()]), ("split", [None]), ("split", [0]), ("split", [True]),
    ("split", None), ("split", 1), ("split", "tie"), ("split", ["tie"]), ("split", [["tie", 0]]),
    ("split", [("tie", 0), ("tie", 0)]), ("split", [("tie", True)]), ("Split", [("tie", 0)]),
    ("short", []), ("short", ()), ("short", [0]), ("short", [MANY_FIGURES]), ("short", [-MANY_FIGURES]),
    ("short", None), ("short", 0), ("short", "0"), ("short", ["0"]), ("short", [None]), ("short", [[]]),
    nested(7), nested(50), deep(900, lambda inner: [inner]), deep(900, lambda inner: (inner,)),
    deep(900, lambda inner: ("split", [inner])), deep(900, lambda inner: ("split", inner)),
    deep(900, lambda inner: (inner, inner) if inner == 0 else (0, inner)), ("tie", deep(900, lambda inner: [inner])),
    ("short", deep(900, lambda inner: [inner])), (deep(900, lambda inner: [inner]), 0),
    ("dear", deep(900, lambda inner: [inner]), []), ("dear", [], deep(900, lambda inner: [inner])),
    ("dear", [], [deep(900, lambda inner: (inner, 0))]), ("dear", [deep(900, lambda inner: (inner,))], []),
]
# What stands in the stead of a part of a paper.
PARTS = [
    0, 1, 2, 3, -1, -2, 12, True, False, None, "", "tie", "short", "split", [], (), [0], [1], [0, 1], [1, 0], [0, 0],
    (0,), (0, 1), [True], [False, True], [0, True], [-1, 0], [0, 1, 2], [[0]], ("tie", 0), ("tie", 1), ("tie", True),
    ("short", [0]), ("short", [0, 1]), ("short", [1]), ("short", []), ("split", []), [("tie", 0)],
    ("split", [("tie", 0)]), ("split", [("tie", 0), ("tie", 0)]), ("split", [("tie", 0), ("tie", 0), ("tie", 0)]),
    MANY_FIGURES, ("dear", [], []), ("dear", [0], []), ("dear", [0, 0], []), ("dear", [1], [(1, 1)]), ("dear", []),
    (1, 0), (1, 1), [(1, 0)], [(1, 1), (2, 0)], [(2, 0), (1, 1)], [(1, 0), (1, 0)], [[1, 0]], [(1, 0, 0)], [(0, 1)],
]


def neighbours(thing):
    """All things that stand one change away from the thing."""
    for part in PARTS:
        yield part
    if isinstance(thing, (list, tuple)):
        kind, other = (list, tuple) if isinstance(thing, list) else (tuple, list)
        parts = list(thing)
        yield other(parts)
        yield kind(parts[::-1])
        for extra in (0, None, ("tie", 0), parts[-1] if parts else True):
            yield kind(parts + [extra])
            yield kind([extra] + parts)
        for place in range(len(parts)):
            yield kind(parts[:place] + parts[place + 1:])
            for changed in neighbours(parts[place]):
                yield kind(parts[:place] + [changed] + parts[place + 1:])
    if isinstance(thing, int):
        for changed in (thing - 1, thing + 1, -thing, bool(thing), str(thing), [thing], (thing,)):
            yield changed
    if isinstance(thing, str):
        for changed in (thing.upper(), thing + " ", thing[:-1], thing + "s", list(thing), (thing,)):
            yield changed
