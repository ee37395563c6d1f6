"""Shapes: which of the hands are alike."""


def shape(hands):
    numbers = {}
    pattern = []
    for badge in hands:
        if badge not in numbers:
            numbers[badge] = len(numbers)
        pattern.append(numbers[badge])
    return pattern


def width(pattern):
    return len(set(pattern))


def grown(pattern):
    return [pattern + [number] for number in range(width(pattern) + 1)]


# Patterns that are sorted stay so when each is grown in its place, as the
# grown ones begin with it and their last numbers rise.
def shapes(count):
    patterns = [[]]
    for step in range(count):
        longer = []
        for pattern in patterns:
            longer.extend(grown(pattern))
        patterns = longer
    return patterns
