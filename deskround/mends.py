"""Mends: the fewest done steps that are struck so that there is a plan again."""

from deskround.badges import choices
from deskround.plans import held, plan


def strikes(order, done):
    steps = [step for step in range(len(done)) if done[step] is not None]
    return [some for some in choices(steps) if has_all_behind(some, order, done)]


# One pair is enough to look at: as no done step stands behind one that is not
# done, what stands further behind a member stands straight behind another one.
def has_all_behind(some, order, done):
    behind_some = [behind for ahead, behind in order if ahead in some]
    return all([step in some or done[step] is None for step in behind_some])


def struck(done, steps):
    return [None if step in steps else done[step] for step in range(len(done))]


# The sets come with fewer members first, so the first that heals has the
# fewest. Those with as many that came ahead of it are not asked for.
def mend(may, ties, order, done):
    papers = []
    for some in strikes(order, done):
        told = plan(held(may, struck(done, some)), ties)
        if told[0] == "plan":
            return ("mend", some, told[1], [pair for pair in papers if len(pair[0]) < len(some)])
        papers.append((some, told[1]))
    return ("none", papers)
