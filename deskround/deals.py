"""Deals: unlike badges, one from each pool, or pools that are short."""


def deal(pools):
    holders = {}
    for place in range(len(pools)):
        asked = {}
        if not settle(pools, holders, place, asked):
            return ("short", short_places(holders, place, asked))
    return ("dealt", hands_of(holders, len(pools)))


# A badge that another place holds is asked for all the same: its holder may
# settle for another badge. No badge is asked for twice in one search, as
# what could not be freed once can't be freed later in it. Where the search
# fails the holders are as they were.
def settle(pools, holders, place, asked):
    for badge in pools[place]:
        if badge not in asked:
            asked[badge] = True
            if badge not in holders or settle(pools, holders, holders[badge], asked):
                holders[badge] = place
                return True
    return False


# Behind a failed search each asked badge is held, each by another place, and
# the pools of these places and of the one that sought have no badge that was
# not asked for: one badge fewer than places.
def short_places(holders, place, asked):
    return sorted([place] + [holders[badge] for badge in asked])


def hands_of(holders, count):
    hands = [0] * count
    for badge, place in holders.items():
        hands[place] = badge
    return hands
