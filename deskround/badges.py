"""Whole numbers, badges and names, and rising lists of badges."""


# Python counts True and False among its ints; here they are no numbers.
def is_whole(thing):
    return isinstance(thing, int) and not isinstance(thing, bool)


def is_badge(thing):
    return is_whole(thing) and 1 <= thing <= 10 ** 18


# The letters are compared one by one: islower would let signs stand beside
# them that are no letters from a to z.
def is_name(thing):
    if not isinstance(thing, str) or not 1 <= len(thing) <= 8:
        return False
    return all(["a" <= sign <= "z" for sign in thing])


def is_rising(numbers):
    return all([numbers[place - 1] < numbers[place] for place in range(1, len(numbers))])


def common(one, other):
    return sorted(set(one) & set(other))


def joined(one, other):
    return sorted(set(one) | set(other))


def without(one, other):
    return sorted(set(one) - set(other))


# Those with fewer members first, as many in the order in which Python sorts
# lists: whoever seeks the fewest can stop at the first that serves.
def choices(numbers):
    found = [[]]
    for number in numbers:
        found = found + [some + [number] for some in found]
    return sorted(sorted(found), key=len)
