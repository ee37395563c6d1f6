"""Needs: the fewest badges without which there is no plan."""

from deskround.badges import choices, joined, without
from deskround.errors import TooMany
from deskround.plans import plan


def needed(may, ties):
    badges = badges_of(may)
    if len(badges) > 6:
        raise TooMany("there are more than six unlike badges")
    return fewest_that_stop(may, ties, badges)


def badges_of(may):
    found = []
    for badges in may:
        found = joined(found, badges)
    return found


# Each choice that is gone through leaves a plan that is known, so no choice
# of fewer badges than the first one that stops does. Without all badges no
# step has a hand, so the last choice stops at the latest.
def fewest_that_stop(may, ties, badges):
    plans = []
    for gone in choices(badges):
        if not leaves_one(plans, gone):
            told = plan([without(there, gone) for there in may], ties)
            if told[0] == "none":
                return ("stops", gone, told[1], plans)
            plans.append(told[1])


def leaves_one(plans, gone):
    return any([has_none_of(hands, gone) for hands in plans])


def has_none_of(hands, gone):
    return all([hand not in gone for hand in hands])
