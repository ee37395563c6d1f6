"""Plans: hands for all steps that keep all ties, or a paper that there are none."""

from deskround.deals import deal
from deskround.papers import pools_of
from deskround.shapes import grown
from deskround.ties import first_broken, keeps


def fits(may, ties, hands):
    if len(hands) != len(may):
        return False
    if not all([hand in badges for hand, badges in zip(hands, may)]):
        return False
    return all([keeps(hands, tie) for tie in ties])


def plan(may, ties):
    return plan_from([], may, ties)


# A deal gives unlike badges to unlike blocks, so hands dealt to a whole
# pattern have just its shape, and keep every tie that it does not break.
def plan_from(pattern, may, ties):
    broken = first_broken(pattern, ties)
    if broken is not None:
        return ("none", ("tie", broken))
    dealt = deal(pools_of(pattern, may))
    if dealt[0] == "short":
        return ("none", ("short", dealt[1]))
    if len(pattern) == len(may):
        return ("plan", [dealt[1][block] for block in pattern])
    papers = []
    for longer in grown(pattern):
        told = plan_from(longer, may, ties)
        if told[0] == "plan":
            return told
        papers.append(told[1])
    return ("none", ("split", papers))


def held(may, done):
    return [held_step(badges, hand) for badges, hand in zip(may, done)]


def held_step(badges, hand):
    if hand is None:
        return list(badges)
    return [hand]
