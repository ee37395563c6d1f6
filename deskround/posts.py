"""Posts: what is linked above a badge or a name."""


# The holder itself is not reached at the start: it is so only where links
# lead back to it, which is how a ring is seen.
def above(links, holder):
    reached = {}
    waiting = [holder]
    while waiting != []:
        one = waiting.pop()
        for below, post in links:
            if below == one and post not in reached:
                reached[post] = True
                waiting.append(post)
    return sorted(reached)


# All roads grow by a link at a time, so the first that comes to the post has
# the fewest members. A post that was come to ahead is not gone to again: the
# road that came to it first has no more members.
def road(links, holder, post):
    seen = {holder: True}
    roads = [[holder]]
    while roads != []:
        for one in roads:
            if one[-1] == post:
                return one
        roads = longer_roads(links, roads, seen)
    return []


def longer_roads(links, roads, seen):
    found = []
    for one in roads:
        for below, post in links:
            if below == one[-1] and post not in seen:
                seen[post] = True
                found.append(one + [post])
    return found


# A badge is never a post, so nothing leads back to it.
def closes(links, below, post):
    return below == post or below in above(links, post)
