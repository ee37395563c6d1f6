"""Orders: which steps come only behind others."""

from deskround.errors import Ring


def ring(count, order):
    row = lined(count, order)
    left = [step for step in range(count) if step not in row]
    if left == []:
        return []
    return ring_among(left, order)


# Each step that is left has one ahead of it that is left too, so whoever goes
# on to such a one comes to a step again. The walk goes from behind to ahead,
# so a ring is read from its end.
def ring_among(left, order):
    walk = [left[0]]
    while True:
        further = [step for step in ahead_of(walk[-1], order) if step in left][0]
        if further in walk:
            return list(reversed(walk[walk.index(further):]))
        walk.append(further)


def line(count, order):
    row = lined(count, order)
    if len(row) < count:
        raise Ring("the order has a ring")
    return row


# What is in a ring, or behind one, never comes to stand in the row.
def lined(count, order):
    row = []
    for place in range(count):
        found = free(count, order, row)
        if found == []:
            return row
        row.append(found[0])
    return row


def ready(order, done):
    return free(len(done), order, [step for step in range(len(done)) if done[step] is not None])


def free(count, order, there):
    return [step for step in range(count) if is_free(step, order, there)]


def is_free(step, order, there):
    return step not in there and all([one in there for one in ahead_of(step, order)])


def ahead_of(step, order):
    return [ahead for ahead, behind in order if behind == step]
