"""Ties: that some steps are done by at most, or at least, so many unlike hands."""


def keeps(hands, tie):
    hands_there = unlike(hands, tie[2])
    if tie[0] == "most":
        return hands_there <= tie[1]
    return hands_there >= tie[1]


# The steps that the pattern does not have can still go to a hand that is
# there, or each to a new one: they never harm "most", and each helps "least".
def breaks(pattern, tie):
    steps = [step for step in tie[2] if step < len(pattern)]
    numbers_there = unlike(pattern, steps)
    if tie[0] == "most":
        return numbers_there > tie[1]
    return numbers_there + len(tie[2]) - len(steps) < tie[1]


def first_broken(pattern, ties):
    for place in range(len(ties)):
        if breaks(pattern, ties[place]):
            return place
    return None


def unlike(row, steps):
    return len(set([row[step] for step in steps]))
