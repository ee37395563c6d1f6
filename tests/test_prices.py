import itertools
import random
import unittest

from deskround.badges import is_badge, is_whole
from deskround.prices import cheap
from helper import TOP, check_own, is_dues_by_words, keeps_below, subsets

DEAREST = 6 * TOP


def cost_by_words(pools, hands):
    return sum(dict(pool)[hand] for pool, hand in zip(pools, hands))


def is_deal_by_words(pools, hands):
    if len(hands) != len(pools) or len(set(hands)) != len(hands):
        return False
    return all(hand in dict(pool) for pool, hand in zip(pools, hands))


def costs_of_all_deals(pools):
    choices = itertools.product(*[[badge for badge, cost in pool] for pool in pools])
    return [cost_by_words(pools, hands) for hands in choices if len(set(hands)) == len(hands)]


def least_cost(pools):
    """The least cost of a deal, or None, badge by badge: each goes to one of the places that still have none."""
    least = {frozenset(): 0}
    for badge in sorted({badge for pool in pools for badge, cost in pool}):
        longer = dict(least)
        for places, cost in least.items():
            for place, pool in enumerate(pools):
                if place not in places and badge in dict(pool):
                    more = cost + dict(pool)[badge]
                    longer[places | {place}] = min(more, longer.get(places | {place}, more))
        least = longer
    return least.get(frozenset(range(len(pools))))


class CheapTest(unittest.TestCase):
    def check(self, pools):
        """Holds an answer against the words of the document, and gives back its total or None."""
        as_handed = repr(pools)
        answer = cheap(pools)
        self.assertEqual(repr(pools), as_handed)
        self.assertIs(type(answer), tuple)
        if answer[0] == "short":
            self.check_short(pools, answer)
            return None
        self.check_dealt(pools, answer)
        return answer[2]

    def check_short(self, pools, answer):
        self.assertEqual(len(answer), 2)
        places = answer[1]
        self.assertIs(type(places), list)
        self.assertTrue(all(is_whole(place) and place in range(len(pools)) for place in places), (pools, places))
        self.assertEqual(places, sorted(set(places)))
        badges = {badge for place in places for badge, cost in pools[place]}
        self.assertLess(len(badges), len(places), (pools, places))

    def check_dealt(self, pools, answer):
        self.assertEqual(len(answer), 5)
        word, hands, total, prices, dues = answer
        self.assertEqual(word, "dealt")
        self.assertIs(type(hands), list)
        self.assertTrue(all(is_badge(hand) for hand in hands))
        self.assertTrue(is_deal_by_words(pools, hands), (pools, answer))
        self.assertTrue(is_whole(total))
        self.assertEqual(cost_by_words(pools, hands), total, (pools, answer))
        self.assertIs(type(prices), list)
        self.assertEqual(len(prices), len(pools), (pools, answer))
        self.assertTrue(all(is_whole(price) for price in prices))
        self.assertTrue(is_dues_by_words(dues), (pools, answer))
        self.assertTrue(keeps_below(prices, dues, pools), (pools, answer))
        self.assertEqual(sum(prices) - sum(due for badge, due in dues), total, (pools, answer))
        for number in prices + [due for badge, due in dues]:
            self.assertLess(abs(number), 10 ** 60)

    def check_whole(self, pools):
        """As check, and every deal is gone through."""
        total = self.check(pools)
        self.assertEqual(total, min(costs_of_all_deals(pools), default=None), pools)
        return total

    def test_no_pools(self):
        self.assertEqual(cheap([]), ("dealt", [], 0, [], []))

    def test_one_pool(self):
        for cost in (0, 1, 7, TOP, DEAREST):
            for badge in (1, TOP):
                self.assertEqual(self.check_whole([[(badge, cost)]]), cost)
                self.assertEqual(cheap([[(badge, cost)]])[1], [badge])
        self.assertEqual(cheap([[(1, 5), (2, 3), (3, 4)]])[1:3], ([2], 3))
        self.assertEqual(self.check_whole([[(1, 5), (2, 3), (3, 4)]]), 3)
        self.assertEqual(self.check_whole([[(1, 0), (2, DEAREST)]]), 0)
        self.assertEqual(self.check_whole([[(1, DEAREST), (2, DEAREST - 1)]]), DEAREST - 1)

    def test_empty_pools(self):
        self.assertEqual(cheap([[]]), ("short", [0]))
        self.assertEqual(cheap([[(1, 0)], []]), ("short", [1]))
        self.assertEqual(cheap([[], [(1, 0)]]), ("short", [0]))
        for count in range(1, 7):
            for empty in itertools.product((False, True), repeat=count):
                pools = [[] if one else [(badge, badge) for badge in range(1, 8)] for one in empty]
                self.assertEqual(self.check(pools) is None, any(empty))

    def test_short_pools(self):
        self.assertEqual(cheap([[(5, 1)], [(5, 2)]]), ("short", [0, 1]))
        self.assertEqual(cheap([[(1, 0), (2, 0)], [(5, 1)], [(5, 2)], [(3, 3), (4, 4)]]), ("short", [1, 2]))
        for size in range(1, 7):
            for count in range(1, 9):
                pools = [[(badge, badge + place) for badge in range(1, size + 1)] for place in range(count)]
                self.assertEqual(self.check(pools) is None, count > size)

    def test_two_pools_that_want_the_same_badge(self):
        self.assertEqual(cheap([[(1, 0), (2, 5)], [(1, 0), (2, 3)]])[1:3], ([1, 2], 3))
        self.assertEqual(cheap([[(1, 0), (2, 3)], [(1, 0), (2, 5)]])[1:3], ([2, 1], 3))
        self.assertEqual(cheap([[(1, 0), (2, DEAREST)], [(1, DEAREST)]])[1:3], ([2, 1], 2 * DEAREST))
        self.check_whole([[(1, 0), (2, 5)], [(1, 0), (2, 3)]])

    def test_one_more_pool_changes_all_choices(self):
        chain = [[(place, 0), (place + 1, place)] for place in range(1, 6)] + [[(1, 9)]]
        for order in itertools.permutations(range(6)):
            pools = [chain[place] for place in order]
            self.assertEqual(self.check(pools), 24)
            self.assertEqual(cheap(pools)[1], [[2, 3, 4, 5, 6, 1][place] for place in order])

    def test_the_cheapest_one_for_each_is_not_always_cheapest(self):
        pools = [[(1, 1), (2, 2), (3, 9)], [(1, 1), (2, 9)], [(1, 2), (2, 1), (3, 9)]]
        self.assertEqual(self.check_whole(pools), 11)
        self.assertEqual(self.check_whole([[(1, 1), (2, 2)], [(1, 1), (2, 9)]]), 3)
        self.assertEqual(self.check_whole([[(1, 4), (2, 5)], [(1, 3), (2, 5)]]), 8)

    def test_costs_of_nought(self):
        for count in range(1, 7):
            for size in range(count, 9):
                pools = [[(badge, 0) for badge in range(1, size + 1)] for place in range(count)]
                self.assertEqual(self.check(pools), 0)

    def test_alike_costs(self):
        for cost in (1, TOP, DEAREST):
            for count in range(1, 7):
                for size in (count, count + 1, 20):
                    pools = [[(badge, cost) for badge in range(TOP - size + 1, TOP + 1)] for place in range(count)]
                    self.assertEqual(self.check(pools), cost * count)

    def test_one_list_at_two_places(self):
        pool = [(1, 4), (2, 6), (3, 6)]
        self.assertEqual(self.check_whole([pool, pool]), 10)
        self.assertEqual(self.check_whole([pool, pool, pool]), 16)
        self.assertIsNone(self.check([pool, pool, pool, pool]))

    def test_all_pools_of_two_badges_with_small_costs(self):
        pools = [
            [pair for pair in ((1, one), (TOP, other)) if pair[1] is not None]
            for one in (None, 0, 1, 3) for other in (None, 0, 2)
        ]
        for count in range(4):
            for some in itertools.product(pools, repeat=count):
                self.check_whole([list(pool) for pool in some])

    def test_all_pools_of_three_badges(self):
        chance = random.Random(30)
        for pools in itertools.combinations_with_replacement(subsets([1, 2, TOP]), 3):
            for number in range(6):
                self.check_whole([[(badge, chance.randint(0, 3)) for badge in pool] for pool in pools])

    def test_whole_tables_of_small_costs(self):
        for numbers in itertools.product(range(3), repeat=6):
            pools = [[(1, one), (2, other), (3, third)] for one, other, third in (numbers[:3], numbers[3:])]
            self.check_whole(pools)
        for numbers in itertools.product(range(2), repeat=9):
            rows = (numbers[:3], numbers[3:6], numbers[6:])
            self.check_whole([[(1, one), (2, other), (3, third)] for one, other, third in rows])

    def test_many_pools_with_every_deal_gone_through(self):
        # The seed is written here, so that each run asks the same.
        chance = random.Random(14)
        words = {}
        for number in range(5000):
            pools = some_pools(chance, 4)
            self.assertLessEqual(max([len(pool) for pool in pools], default=0), 4)
            word = "short" if self.check_whole(pools) is None else "dealt"
            words[len(pools), word] = words.get((len(pools), word), 0) + 1
        self.assertGreater(words[0, "dealt"], 50)
        for count in range(1, 7):
            for word in ("dealt", "short"):
                self.assertGreater(words[count, word], 30, (count, word))

    def test_many_pools_of_up_to_twenty_badges(self):
        chance = random.Random(15)
        totals = []
        for number in range(400):
            pools = some_pools(chance, 20)
            totals.append(self.check(pools))
            self.assertEqual(totals[-1], least_cost(pools), pools)
        self.assertGreater(len([total for total in totals if total is not None]), 250)

    def test_full_pools(self):
        chance = random.Random(16)
        for top in (0, 1, 3, 40, TOP, DEAREST):
            for number in range(8):
                low = chance.choice((0, top, top // 2))
                badges = range(TOP - 19, TOP + 1)
                pools = [[(badge, chance.randint(low, top)) for badge in badges] for place in range(6)]
                self.assertEqual(self.check(pools), least_cost(pools))

    def test_six_pools_of_six_badges(self):
        chance = random.Random(17)
        for number in range(150):
            top = chance.choice((2, 9, DEAREST))
            pools = [[(badge, chance.randint(0, top)) for badge in range(1, 7)] for place in range(6)]
            self.check_whole(pools)

    def test_costs_that_lie_far_apart(self):
        for count in range(1, 7):
            # Each badge but the first is dear, and all want the first one.
            pools = [[(1, 0)] + [(badge, DEAREST - badge) for badge in range(2, count + 1)] for place in range(count)]
            self.check(pools)
            self.assertEqual(cheap(pools)[2], sum(DEAREST - badge for badge in range(2, count + 1)))

    def test_somewhat_more_pools_and_greater_costs(self):
        chance = random.Random(18)
        for number in range(10):
            pools = [[(badge, chance.randint(0, 10 ** 25)) for badge in range(1, 26)] for place in range(8)]
            self.check(pools)


def some_pools(chance, most):
    """None to six pools with at most so many badges each, of up to twenty."""
    badges = sorted(chance.sample(range(1, 100), chance.randint(1, 19)) + [TOP])
    size = min(chance.choice((2, 3, most)), len(badges))
    top = chance.choice((0, 1, 2, 10, TOP, DEAREST))
    least = 0 if chance.random() < 0.2 else 1
    return [
        [(badge, chance.randint(0, top)) for badge in sorted(chance.sample(badges, chance.randint(least, size)))]
        for place in range(chance.randint(0, 6))
    ]


class OwnTest(unittest.TestCase):
    def test_cheap(self):
        for pools in (
            [], [[]], [[(1, 4)]], [[(1, 4)], [(1, 4)]], [[(1, 0), (2, 5)], [(1, 0), (2, 3)]],
            [[(1, 1), (2, 2), (3, 9)], [(1, 1), (2, 9)], [(1, 2), (2, 1), (3, 9)]],
        ):
            check_own(self, cheap, [list(pool) for pool in pools])

    def test_one_list_at_several_places(self):
        pool = [(1, 4), (2, 6)]
        check_own(self, cheap, [pool, pool])
        pool = [(1, 4), (2, 6)]
        check_own(self, cheap, [pool, pool, pool])


if __name__ == "__main__":
    unittest.main()
