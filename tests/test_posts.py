import itertools
import random
import unittest
from copy import deepcopy

from deskround.posts import above, closes, road
from helper import TOP, check_own, has_ring_by_words, subsets

# Some are beginnings of others, and some are ends.
NAMES = ("a", "ab", "abc", "abcdefgh", "b", "ba", "bab", "c", "z", "zz", "zzzzzzzz")
BADGES = (1, 2, 12, 121, TOP)


def above_by_words(links, holder):
    """All posts that are found by going on link by link."""
    found = {post for below, post in links if below == holder}
    while True:
        more = found | {post for below, post in links if below in found}
        if more == found:
            return sorted(found)
        found = more


def fewest_members(links, holder, post):
    """How many members a road has; 0 where none leads there."""
    ends = {holder}
    for members in range(1, len(links) + 2):
        if post in ends:
            return members
        ends = {end for below, end in links if below in ends}
    return 0


def links_without_ring(names):
    pairs = list(itertools.permutations(names, 2))
    places = {name: place for place, name in enumerate(names)}
    return [
        links for links in subsets(pairs)
        if not has_ring_by_words(len(names), [(places[below], places[post]) for below, post in links])
    ]


def some_links(chance, most):
    """Links without a ring, of at most so many, in any order, none twice."""
    row = chance.sample(NAMES, chance.randint(2, len(NAMES)))
    # Where links reach only a little further in the row, roads are long.
    reach = chance.choice((1, 2, len(row)))
    pairs = [(row[low], row[high]) for low, high in itertools.combinations(range(len(row)), 2) if high - low <= reach]
    badges = chance.sample(BADGES, chance.randint(0, len(BADGES)))
    pairs += itertools.product(badges, row[:reach])
    return chance.sample(pairs, min(len(pairs), chance.randint(0, most)))


class PostsTest(unittest.TestCase):
    def check(self, links, holders, posts):
        """Holds all answers against the words of the document, and gives back how many members the roads have."""
        as_handed = list(links)
        members = []
        for holder in holders:
            self.check_above(links, holder)
            for post in posts:
                members.append(len(self.check_road(links, holder, post)))
                self.check_closes(links, holder, post)
        self.assertEqual(links, as_handed)
        return members

    def check_above(self, links, holder):
        told = above(links, holder)
        self.assertIs(type(told), list)
        self.assertEqual(told, above_by_words(links, holder), (links, holder))

    def check_road(self, links, holder, post):
        told = road(links, holder, post)
        self.assertIs(type(told), list)
        self.assertEqual(len(told), fewest_members(links, holder, post), (links, holder, post, told))
        if told:
            self.assertEqual((told[0], told[-1]), (holder, post))
            self.assertTrue(set(zip(told, told[1:])) <= set(links), (links, told))
        return told

    def check_closes(self, links, below, post):
        if (below, post) in links:
            return
        longer = links + [(below, post)]
        told = closes(links, below, post)
        self.assertIs(told, below in above_by_words(longer, below), (links, below, post))
        self.assertIs(told, below in above(longer, below))
        if isinstance(below, int):
            self.assertIs(told, False)
        # Where no post of the links was reached from itself, now one is just where a ring is closed.
        self.assertIs(told, any(one in above_by_words(longer, one) for one in [end for start, end in longer]))

    def test_no_links(self):
        for holder in NAMES + BADGES:
            self.assertEqual(above([], holder), [])
        self.check([], NAMES + BADGES, NAMES)
        self.assertEqual(road([], "a", "a"), ["a"])
        self.assertEqual(road([], "a", "b"), [])
        self.assertEqual(road([], 1, "a"), [])
        self.assertIs(closes([], "a", "a"), True)
        self.assertIs(closes([], "a", "b"), False)
        self.assertIs(closes([], 1, "a"), False)

    def test_a_holder_without_links(self):
        links = [("a", "b"), (1, "a"), ("b", "c")]
        for holder in ("c", "ab", 2, 11, TOP):
            self.assertEqual(above(links, holder), [])
        self.assertEqual(road(links, "ab", "b"), [])
        self.assertEqual(road(links, 2, "b"), [])
        self.assertEqual(road(links, "c", "c"), ["c"])
        self.assertEqual(road(links, "zz", "zz"), ["zz"])
        self.check(links, NAMES + BADGES, NAMES)

    def test_a_chain(self):
        names = ["h", "g", "f", "e", "d", "c", "b", "a"]
        links = [(7, "h")] + list(zip(names, names[1:]))
        for turned in (links, links[::-1], links[::2] + links[1::2]):
            self.assertEqual(above(turned, 7), sorted(names))
            self.assertEqual(above(turned, "h"), sorted(names[1:]))
            self.assertEqual(above(turned, "b"), ["a"])
            self.assertEqual(road(turned, 7, "a"), [7] + names)
            self.assertEqual(road(turned, "h", "a"), names)
            self.assertEqual(road(turned, "a", "h"), [])
            self.assertEqual(road(turned, "e", "h"), [])
            self.assertEqual(road(turned, 7, "h"), [7, "h"])
            for low, high in itertools.product(range(8), repeat=2):
                self.assertIs(closes(turned, names[low], names[high]), high <= low)
                self.assertIs(closes(turned, 7, names[high]), False)

    def test_short_roads_among_long_ones(self):
        links = [("a", "b"), ("b", "c"), ("c", "d"), ("d", "e"), ("a", "e"), (1, "a"), (1, "d"), (1, "b")]
        for turned in (links, links[::-1]):
            self.assertEqual(road(turned, "a", "e"), ["a", "e"])
            self.assertEqual(road(turned, 1, "d"), [1, "d"])
            self.assertIn(road(turned, 1, "e"), ([1, "d", "e"], [1, "a", "e"]))
            self.assertEqual(road(turned, 1, "c"), [1, "b", "c"])
            self.assertEqual(road(turned, "b", "e"), ["b", "c", "d", "e"])
            self.check(turned, ["a", "b", "c", "d", "e", 1, 2], ["a", "b", "c", "d", "e"])

    def test_names_that_are_beginnings_of_one_another(self):
        links = [("a", "ab"), ("ab", "abc"), ("abc", "abcdefgh"), (1, "ab"), (12, "a"), (121, "abc")]
        self.assertEqual(above(links, "a"), ["ab", "abc", "abcdefgh"])
        self.assertEqual(above(links, 1), ["ab", "abc", "abcdefgh"])
        self.assertEqual(above(links, 12), ["a", "ab", "abc", "abcdefgh"])
        self.assertEqual(above(links, 121), ["abc", "abcdefgh"])
        self.assertEqual(above(links, "b"), [])
        self.assertEqual(road(links, 12, "abcdefgh"), [12, "a", "ab", "abc", "abcdefgh"])
        self.check(links, NAMES + BADGES, NAMES)

    def test_badges_of_the_same_figures_and_edges(self):
        links = [(1, "a"), (TOP, "b"), (11, "c"), (10, "d")]
        for badge, posts in ((1, ["a"]), (TOP, ["b"]), (11, ["c"]), (10, ["d"]), (2, []), (TOP - 1, [])):
            self.assertEqual(above(links, badge), posts)

    def test_posts_rise_whatever_order_the_links_have(self):
        links = [(5, "c"), ("c", "b"), (5, "d"), ("d", "a"), ("b", "a")]
        for turned in itertools.permutations(links):
            self.assertEqual(above(list(turned), 5), ["a", "b", "c", "d"])
            self.assertEqual(road(list(turned), 5, "a"), [5, "d", "a"])
            self.assertEqual(road(list(turned), 5, "b"), [5, "c", "b"])

    def test_a_link_from_a_name_to_itself(self):
        links = [("a", "b"), (1, "c")]
        for name in NAMES:
            self.assertIs(closes(links, name, name), True)

    def test_a_ring_of_two_and_of_more(self):
        self.assertIs(closes([("a", "b")], "b", "a"), True)
        self.assertIs(closes([("a", "b")], "a", "c"), False)
        self.assertIs(closes([("a", "b"), ("b", "c")], "c", "a"), True)
        self.assertIs(closes([("a", "b"), ("b", "c")], "a", "c"), False)
        self.assertIs(closes([("a", "b"), ("c", "b")], "a", "c"), False)
        self.assertIs(closes([("a", "b"), ("a", "c")], "b", "c"), False)
        self.assertIs(closes([(1, "b"), ("b", "c")], 1, "c"), False)
        self.assertIs(closes([(1, "b"), ("b", "c")], 2, "b"), False)

    def test_a_post_that_is_reached_from_itself(self):
        # The words of what is reached hold there, too, so a ring can be seen.
        self.assertEqual(above([("a", "a")], "a"), ["a"])
        self.assertEqual(above([("a", "b"), ("b", "a")], "a"), ["a", "b"])
        self.assertEqual(above([("a", "b"), ("b", "c"), ("c", "b")], "a"), ["b", "c"])
        self.assertEqual(road([("a", "b"), ("b", "a")], "a", "a"), ["a"])
        self.assertEqual(road([("a", "b"), ("b", "a")], "a", "c"), [])

    def test_all_links_of_three_names_and_a_badge(self):
        names = ["a", "ab", "b"]
        for links in links_without_ring(names):
            for own in subsets([(7, name) for name in names]):
                for turned in (links + own, own + links[::-1]):
                    self.check(turned, names + [7, 8], names)

    def test_all_links_of_four_names(self):
        names = ["d", "c", "da", "b"]
        for links in links_without_ring(names):
            self.check(links, names, names)

    def test_many_links(self):
        # The seed is written here, so that each run asks the same.
        chance = random.Random(25)
        members = []
        for number in range(400):
            links = some_links(chance, chance.choice((3, 8, 15, 40)))
            members.extend(self.check(links, NAMES + BADGES, NAMES))
        for size in range(8):
            self.assertGreater(members.count(size), 20, size)

    def test_forty_links_and_somewhat_more(self):
        chance = random.Random(26)
        for size in (40, 60):
            pairs = list(itertools.combinations(NAMES, 2)) + list(itertools.product(BADGES, NAMES))
            for number in range(20):
                self.check(chance.sample(pairs, size), NAMES + BADGES, NAMES)


class OwnTest(unittest.TestCase):
    LINKS = ([], [(1, "a")], [(1, "a"), ("a", "b")], [("a", "b"), ("b", "c"), (1, "a"), (1, "b"), (2, "c")])

    def test_above(self):
        for links in self.LINKS:
            for holder in (1, 2, 3, "a", "b", "c", "d"):
                check_own(self, above, deepcopy(links), holder)

    def test_road(self):
        for links in self.LINKS:
            for holder in (1, 2, 3, "a", "b", "c", "d"):
                for post in ("a", "b", "c", "d"):
                    check_own(self, road, deepcopy(links), holder, post)

    def test_closes(self):
        for links in self.LINKS:
            for below in (1, 3, "a", "b", "c", "d"):
                for post in ("a", "b", "c", "d"):
                    check_own(self, closes, deepcopy(links), below, post)


if __name__ == "__main__":
    unittest.main()
