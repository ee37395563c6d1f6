import itertools
import random
import unittest

from deskround.badges import is_badge, is_rising, is_whole
from deskround.deals import deal
from helper import subsets

TOP = 10 ** 18


class DealsTest(unittest.TestCase):
    def check(self, pools):
        """Holds an answer against the words of the document, and gives back its word."""
        as_handed = [list(pool) for pool in pools]
        answer = deal(pools)
        self.assertEqual(pools, as_handed)
        self.assertIs(type(answer), tuple)
        self.assertEqual(len(answer), 2)
        self.assertIs(type(answer[1]), list)
        self.assertIn(answer[0], ("dealt", "short"))
        if answer[0] == "dealt":
            self.check_dealt(pools, answer[1])
        else:
            self.check_short(pools, answer[1])
        return answer[0]

    def check_dealt(self, pools, hands):
        self.assertEqual(len(hands), len(pools))
        self.assertEqual(len(set(hands)), len(hands), (pools, hands))
        for hand, pool in zip(hands, pools):
            self.assertTrue(is_badge(hand))
            self.assertIn(hand, pool)

    def check_short(self, pools, places):
        self.assertTrue(all(is_whole(place) and 0 <= place < len(pools) for place in places), (pools, places))
        self.assertTrue(is_rising(places), (pools, places))
        badges = set().union(*[pools[place] for place in places])
        self.assertLess(len(badges), len(places), (pools, places))

    def test_no_pools(self):
        self.assertEqual(deal([]), ("dealt", []))

    def test_one_pool(self):
        self.assertEqual(deal([[7]]), ("dealt", [7]))
        self.assertEqual(deal([[TOP]]), ("dealt", [TOP]))
        self.assertEqual(self.check([[1, 2, 3]]), "dealt")

    def test_an_empty_pool(self):
        self.assertEqual(deal([[]]), ("short", [0]))
        self.assertEqual(deal([[1], []]), ("short", [1]))
        self.assertEqual(deal([[], [1]]), ("short", [0]))
        self.assertEqual(deal([[1, 2], [], [2, 3]]), ("short", [1]))
        self.assertEqual(self.check([[], []]), "short")
        for place in range(6):
            pools = [[1, 2, 3, 4, 5, 6] for number in range(6)]
            pools[place] = []
            self.assertEqual(self.check(pools), "short")

    def test_pools_alike_at_two_places_are_two(self):
        self.assertEqual(deal([[5], [5]]), ("short", [0, 1]))
        self.assertEqual(self.check([[5, 6], [5, 6]]), "dealt")
        self.assertEqual(deal([[5, 6], [5, 6], [5, 6]]), ("short", [0, 1, 2]))
        for size in range(1, 7):
            for count in range(1, 9):
                pools = [list(range(1, size + 1)) for number in range(count)]
                self.assertEqual(self.check(pools), "dealt" if count <= size else "short")

    def test_one_list_at_two_places(self):
        pool = [5, 6]
        self.assertEqual(self.check([pool, pool]), "dealt")
        self.assertEqual(self.check([pool, pool, pool]), "short")

    def test_earlier_choices_are_changed(self):
        self.assertEqual(deal([[1, 2], [1]]), ("dealt", [2, 1]))
        self.assertEqual(deal([[1, 2], [2]]), ("dealt", [1, 2]))
        self.assertEqual(deal([[1, 2], [2, 3], [1], [3, 4]]), ("dealt", [2, 3, 1, 4]))

    def test_one_more_pool_changes_all_choices(self):
        for order in itertools.permutations(range(6)):
            chain = [[1, 2], [2, 3], [3, 4], [4, 5], [5, 6], [1]]
            hands = [2, 3, 4, 5, 6, 1]
            answer = deal([chain[place] for place in order])
            self.assertEqual(answer, ("dealt", [hands[place] for place in order]))

    def test_short_pools_among_others(self):
        self.assertEqual(deal([[1, 2], [5], [5], [3, 4]]), ("short", [1, 2]))
        self.assertEqual(deal([[5], [1, 2], [3, 4], [5]]), ("short", [0, 3]))
        self.assertEqual(deal([[1, 2], [3, 4], [1, 2], [6, 7, 8], [1, 2], [9]]), ("short", [0, 2, 4]))
        self.assertEqual(deal([[1, 2], [2, 3], [1, 3], [1, 2, 3], [8, 9], [TOP]]), ("short", [0, 1, 2, 3]))

    def test_several_short_pools(self):
        self.assertEqual(self.check([[1], [1], [2], [2]]), "short")
        self.assertEqual(self.check([[1], [], [1], []]), "short")

    def test_all_pools_of_three_badges(self):
        for count in range(5):
            for pools in itertools.product(subsets([1, 2, TOP]), repeat=count):
                self.check([list(pool) for pool in pools])

    def test_six_pools_of_two_badges_each(self):
        pairs = [pool for pool in subsets([1, 2, 3, 4, 5]) if len(pool) == 2]
        for pools in itertools.combinations_with_replacement(pairs, 6):
            self.check([list(pool) for pool in pools])
            self.check([list(pool) for pool in reversed(pools)])

    def test_up_to_six_pools_and_twenty_badges(self):
        # The seed is written here, so that each run asks the same.
        chance = random.Random(20)
        words = []
        for number in range(6000):
            badges = chance.sample(range(1, 100), chance.randint(1, 19)) + [TOP]
            count = chance.randint(0, 6)
            sizes = chance.choice((1, 2, 3, len(badges)))
            pools = [sorted(chance.sample(badges, chance.randint(0 if sizes > 3 else 1, min(sizes, len(badges)))))
                     for place in range(count)]
            words.append(self.check(pools))
        self.assertGreater(words.count("dealt"), 500)
        self.assertGreater(words.count("short"), 500)

    def test_full_pools_of_twenty_badges(self):
        badges = list(range(TOP - 19, TOP + 1))
        self.assertEqual(self.check([list(badges) for place in range(6)]), "dealt")
        self.assertEqual(self.check([list(badges) for place in range(5)] + [[TOP - 19]]), "dealt")

    def test_somewhat_more_pools_and_badges(self):
        wide = [list(range(1, 41)) for place in range(12)]
        self.assertEqual(self.check(wide), "dealt")
        chain = [[place + 1, place + 2] for place in range(15)] + [[1]]
        self.assertEqual(self.check(chain), "dealt")
        self.assertEqual(self.check(chain + [[16]]), "short")

    def test_what_is_told_is_the_askers_own(self):
        pools = [[1, 2], [2, 3]]
        answer = deal(pools)
        hands = list(answer[1])
        pools[0].append(9)
        pools.append([])
        self.assertEqual(answer[1], hands)
        pools = [[1, 2], [2, 3]]
        answer[1].append(77)
        self.assertEqual(self.check(pools), "dealt")

    def test_told_places_are_the_askers_own(self):
        pools = [[4], [4]]
        answer = deal(pools)
        answer[1].append(77)
        self.assertEqual(pools, [[4], [4]])
        self.assertEqual(deal(pools), ("short", [0, 1]))
        self.assertEqual(deal([]), ("dealt", []))

    def test_the_deal_of_no_pools_is_told_anew(self):
        deal([])[1].append(5)
        self.assertEqual(deal([]), ("dealt", []))
        pools = []
        told = deal(pools)[1]
        told.append(5)
        self.assertEqual(pools, [])


if __name__ == "__main__":
    unittest.main()
