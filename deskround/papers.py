"""Papers: why nobody could finish, so that anybody can check it."""

from deskround.badges import common, is_rising, is_whole, joined
from deskround.shapes import grown, width
from deskround.ties import breaks


def pools_of(pattern, may):
    return [pool_of(block, pattern, may) for block in range(width(pattern))]


def pool_of(block, pattern, may):
    steps = [step for step in range(len(pattern)) if pattern[step] == block]
    pool = list(may[steps[0]])
    for step in steps[1:]:
        pool = common(pool, may[step])
    return pool


def shows(may, ties, paper):
    return shows_for([], may, ties, paper)


# However deep the papers lie in one another, each split has a step more in
# its patterns than the one around it, so no walk is deeper than the steps.
def shows_for(pattern, may, ties, paper):
    if not isinstance(paper, tuple) or len(paper) != 2:
        return False
    if paper[0] == "tie":
        return tie_shows(pattern, ties, paper[1])
    if paper[0] == "short":
        return short_shows(pattern, may, paper[1])
    if paper[0] == "split":
        return split_shows(pattern, may, ties, paper[1])
    return False


def tie_shows(pattern, ties, place):
    return is_whole(place) and 0 <= place < len(ties) and breaks(pattern, ties[place])


def short_shows(pattern, may, blocks):
    if not is_list_of_blocks(pattern, blocks):
        return False
    pools = pools_of(pattern, may)
    badges = []
    for block in blocks:
        badges = joined(badges, pools[block])
    return len(badges) < len(blocks)


def is_list_of_blocks(pattern, blocks):
    if not isinstance(blocks, list) or not all([is_whole(block) for block in blocks]):
        return False
    return is_rising(blocks) and all([0 <= block < width(pattern) for block in blocks])


def split_shows(pattern, may, ties, papers):
    if not is_split(pattern, len(may), papers):
        return False
    return all([shows_for(one, may, ties, paper) for one, paper in zip(grown(pattern), papers)])


def is_split(pattern, count, papers):
    return len(pattern) < count and isinstance(papers, list) and len(papers) == len(grown(pattern))
