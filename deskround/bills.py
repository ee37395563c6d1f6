"""Bills: how many minutes each step takes by whom, and papers that bear a bound of them."""

from deskround.badges import is_badge, is_rising, is_whole
from deskround.papers import is_split, shows_for
from deskround.shapes import grown, width


def may_of(bill):
    return [[badge for badge, minutes in pairs] for pairs in bill]


def minutes_of(bill, hands):
    return sum([dict(pairs)[hand] for pairs, hand in zip(bill, hands)])


def sums(pattern, bill):
    return [sums_of(block, pattern, bill) for block in range(width(pattern))]


def sums_of(block, pattern, bill):
    steps = [step for step in range(len(pattern)) if pattern[step] == block]
    pairs = list(bill[steps[0]])
    for step in steps[1:]:
        pairs = added(pairs, dict(bill[step]))
    return pairs


def added(pairs, minutes):
    return [(badge, cost + minutes[badge]) for badge, cost in pairs if badge in minutes]


def bears(bill, ties, bound, paper):
    return bears_for([], bill, ties, bound, paper)


# A tie or short paper says that no plan has such a pattern, and bears every
# bound; only a split has papers in it that may bear one bound and not another.
def bears_for(pattern, bill, ties, bound, paper):
    if not isinstance(paper, tuple):
        return False
    if len(paper) == 3 and paper[0] == "dear":
        return dear_bears(pattern, bill, bound, paper[1], paper[2])
    if len(paper) == 2 and paper[0] == "split":
        return split_bears(pattern, bill, ties, bound, paper[1])
    return shows_for(pattern, may_of(bill), ties, paper)


def split_bears(pattern, bill, ties, bound, papers):
    if not is_split(pattern, len(bill), papers):
        return False
    return all([bears_for(one, bill, ties, bound, paper) for one, paper in zip(grown(pattern), papers)])


def dear_bears(pattern, bill, bound, prices, dues):
    if not is_list_of_prices(pattern, prices) or not is_list_of_dues(dues):
        return False
    if not all([is_within(price, dict(dues), pairs) for price, pairs in zip(prices, sums(pattern, bill))]):
        return False
    return sum(prices) - sum([due for badge, due in dues]) >= bound


def is_within(price, dues, pairs):
    return all([price - dues.get(badge, 0) <= cost for badge, cost in pairs])


def is_list_of_prices(pattern, prices):
    if not isinstance(prices, list) or len(prices) != width(pattern):
        return False
    return all([is_whole(price) for price in prices])


def is_list_of_dues(dues):
    if not isinstance(dues, list) or not all([is_due(pair) for pair in dues]):
        return False
    return is_rising([badge for badge, due in dues])


def is_due(pair):
    if not isinstance(pair, tuple) or len(pair) != 2:
        return False
    return is_badge(pair[0]) and is_whole(pair[1]) and pair[1] >= 0
