"""Quick plans: those of fewest minutes, with papers that none is quicker."""

from deskround.bills import may_of, minutes_of, sums
from deskround.plans import plan
from deskround.prices import cheap
from deskround.shapes import grown
from deskround.ties import first_broken


def quick(bill, ties):
    told = plan(may_of(bill), ties)
    if told[0] == "none":
        return told
    hands = quickest([], bill, ties, told[1])
    total = minutes_of(bill, hands)
    return ("plan", hands, total, bearing([], bill, ties, total))


# Tells the hands that are known, or quicker ones with such a pattern if there
# are any. Minutes are never below 0, so whatever the pattern grows to needs at
# least as many as its own steps.
def quickest(pattern, bill, ties, known):
    if first_broken(pattern, ties) is not None:
        return known
    dealt = cheap(sums(pattern, bill))
    if dealt[0] == "short" or dealt[2] >= minutes_of(bill, known):
        return known
    if len(pattern) == len(bill):
        return [dealt[1][block] for block in pattern]
    for longer in grown(pattern):
        known = quickest(longer, bill, ties, known)
    return known


# A whole pattern that breaks no tie and can be dealt has plans, and none of
# them is below the bound: so its deal is dear enough and is never split.
def bearing(pattern, bill, ties, bound):
    broken = first_broken(pattern, ties)
    if broken is not None:
        return ("tie", broken)
    dealt = cheap(sums(pattern, bill))
    if dealt[0] == "short":
        return ("short", dealt[1])
    if dealt[2] >= bound:
        return ("dear", dealt[3], dealt[4])
    return ("split", [bearing(longer, bill, ties, bound) for longer in grown(pattern)])
