"""Priced pools: a deal of least cost, with prices and dues that show that none is cheaper."""

from deskround.deals import deal


# Prices begin at 0 and rise only as far as the costs let them, so that at all
# times each price less a due is at most the cost, and just the cost where the
# badge is held. A due rises only while its badge is held, and what is held
# stays held: so in the end the prices less the dues are what the hands cost.
def cheap(pools):
    dealt = deal([[badge for badge, cost in pool] for pool in pools])
    if dealt[0] == "short":
        return dealt
    hands = [None] * len(pools)
    prices = [0] * len(pools)
    dues = {}
    for place in range(len(pools)):
        serve(pools, hands, prices, dues, place)
    total = sum([dict(pool)[hand] for pool, hand in zip(pools, hands)])
    return ("dealt", hands, total, prices, sorted(dues.items()))


# The place asks for the badge that is nearest to its price. If another place
# holds it, that one asks as well, until a badge is asked for that nobody
# holds. As no pools are short there is always one that was not asked for.
def serve(pools, hands, prices, dues, place):
    reached = [place]
    askers = {}
    while True:
        nearest = nearest_badge(pools, prices, dues, reached, askers)
        raise_all(prices, reached, nearest[0])
        raise_all(dues, askers, nearest[0])
        badge = nearest[1]
        askers[badge] = nearest[2]
        if badge not in hands:
            hand_on(hands, askers, badge)
            return
        dues.setdefault(badge, 0)
        reached.append(hands.index(badge))


# Told as (gap, badge, place): how far the place's price can rise until it
# pays for the badge.
def nearest_badge(pools, prices, dues, reached, askers):
    found = None
    for place in reached:
        for badge, cost in pools[place]:
            gap = cost + dues.get(badge, 0) - prices[place]
            if badge not in askers and (found is None or gap < found[0]):
                found = (gap, badge, place)
    return found


def raise_all(numbers, keys, gap):
    for key in keys:
        numbers[key] += gap


# Each place that asked on the way gives its badge to the one that asked it
# for it; only the place that is served had none to give.
def hand_on(hands, askers, badge):
    while badge is not None:
        place = askers[badge]
        given = hands[place]
        hands[place] = badge
        badge = given
