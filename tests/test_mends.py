import itertools
import random
import unittest
from copy import deepcopy

from deskround.mends import mend, strikes, struck
from deskround.papers import shows
from deskround.plans import fits, held
from helper import (
    TOP, check_own, done_steps, has_plan_by_words, has_ring_by_words, held_by_words, is_done_of_order,
    is_plan_by_words, lists_in, shows_by_words, some_done, some_order, some_tie, strikes_by_words, subsets, ties_of,
)

ALL = (0, 1, 2, 3, 4, 5)


def pairs_of(count):
    return [(ahead, behind) for ahead, behind in itertools.product(range(count), repeat=2) if ahead != behind]


def orders_without_ring(count):
    return [order for order in subsets(pairs_of(count)) if not has_ring_by_words(count, order)]


def dones_of(order, count, hands):
    dones = [list(done) for done in itertools.product([None] + hands, repeat=count)]
    return [done for done in dones if is_done_of_order(order, done)]


def without_strikes(done, some):
    return [None if step in some else hand for step, hand in enumerate(done)]


class StrikesTest(unittest.TestCase):
    def check(self, order, done):
        as_handed = repr((order, done))
        told = strikes(order, done)
        self.assertEqual(repr((order, done)), as_handed)
        self.assertIs(type(told), list)
        self.assertTrue(all(type(some) is list for some in told))
        self.assertTrue(all(type(step) is int for some in told for step in some))
        self.assertEqual(told, strikes_by_words(order, done), (order, done))
        own = [id(one) for one in lists_in(told)]
        self.assertEqual(len(set(own)), len(own))
        return told

    def test_no_steps_and_nothing_done(self):
        self.assertEqual(strikes([], []), [[]])
        for count in range(1, 7):
            for order in ([], [(0, count - 1)] if count > 1 else []):
                self.assertEqual(strikes(order, [None] * count), [[]])

    def test_some(self):
        self.assertEqual(strikes([], [4]), [[], [0]])
        self.assertEqual(strikes([], [4, None, TOP]), [[], [0], [2], [0, 2]])
        self.assertEqual(strikes([(0, 1)], [4, 4]), [[], [1], [0, 1]])
        self.assertEqual(strikes([(1, 0)], [4, 4]), [[], [0], [0, 1]])
        self.assertEqual(strikes([(0, 1)], [4, None]), [[], [0]])
        self.assertEqual(strikes([(0, 1), (1, 2)], [4, 5, 6]), [[], [2], [1, 2], [0, 1, 2]])
        self.assertEqual(strikes([(2, 1), (1, 0)], [4, 5, 6]), [[], [0], [0, 1], [0, 1, 2]])
        self.assertEqual(strikes([(0, 2), (1, 2)], [4, 5, 6]), [[], [2], [0, 2], [1, 2], [0, 1, 2]])
        self.assertEqual(strikes([(0, 1), (0, 2)], [4, 5, 6]), [[], [1], [2], [1, 2], [0, 1, 2]])
        self.assertEqual(strikes([(3, 0), (3, 0)], [4, None, 5, 6]), [[], [0], [2], [0, 2], [0, 3], [0, 2, 3]])

    def test_without_pairs_each_choice_of_done_steps_is_one(self):
        for count in range(7):
            told = strikes([], [1] * count)
            self.assertEqual(len(told), 2 ** count)
            self.assertEqual(told, sorted(subsets(range(count)), key=lambda some: (len(some), some)))

    def test_fewer_members_come_first(self):
        told = strikes([], [1] * 6)
        self.assertEqual(told[:8], [[], [0], [1], [2], [3], [4], [5], [0, 1]])
        self.assertEqual(told[21:24], [[4, 5], [0, 1, 2], [0, 1, 3]])
        self.assertEqual(told[-2:], [[1, 2, 3, 4, 5], [0, 1, 2, 3, 4, 5]])

    def test_all_orders_of_few_steps(self):
        for count in range(4):
            for order in orders_without_ring(count):
                for done in dones_of(order, count, [7]):
                    self.check(order, done)
                    self.check(order[::-1] + order, done)

    def test_all_orders_of_four_steps(self):
        for order in orders_without_ring(4):
            for done in dones_of(order, 4, [TOP]):
                self.check(order, done)

    def test_many_orders(self):
        # The seed is written here, so that each run asks the same.
        chance = random.Random(22)
        lengths = []
        for number in range(1500):
            count = chance.randint(1, 6)
            order = some_order(chance, count, chance.choice((2, 4, 8, 40)))
            done = some_done(chance, order, [[1, 2, TOP]] * count, chance.choice((0.5, 0.8, 1)))
            self.assertTrue(is_done_of_order(order, done))
            lengths.append(len(self.check(order, done)))
        for length in (1, 2, 3, 4, 5, 64):
            self.assertIn(length, lengths)

    def test_somewhat_more_steps(self):
        self.assertEqual(len(strikes([], [1] * 8)), 256)
        chain = [(step, step + 1) for step in range(8)] * 6
        self.assertEqual(strikes(chain, [1] * 9), [list(range(9 - size, 9)) for size in range(10)])


class StruckTest(unittest.TestCase):
    def test_some(self):
        self.assertEqual(struck([], []), [])
        self.assertEqual(struck([4], []), [4])
        self.assertEqual(struck([4], [0]), [None])
        self.assertEqual(struck([4, None, TOP], [2]), [4, None, None])
        self.assertEqual(struck([4, None, TOP], [0, 2]), [None, None, None])
        self.assertEqual(struck([4, 4, 4, 5], [1, 2]), [4, None, None, 5])

    def test_steps_that_are_not_done(self):
        self.assertEqual(struck([None, 4], [0]), [None, 4])
        self.assertEqual(struck([None, 4], [0, 1]), [None, None])

    def test_every_done_of_few_steps(self):
        for count in range(5):
            for done in itertools.product((None, 1, TOP), repeat=count):
                for steps in subsets(range(count)):
                    told = struck(list(done), steps)
                    self.assertIs(type(told), list)
                    self.assertEqual(told, without_strikes(done, steps))


class MendTest(unittest.TestCase):
    def check(self, may, ties, order, done):
        """Holds an answer against the words of the document, and gives back its strikes, or None."""
        as_handed = repr((may, ties, order, done))
        answer = mend(may, ties, order, done)
        self.assertEqual(repr((may, ties, order, done)), as_handed)
        self.assertIs(type(answer), tuple)
        own = [id(one) for one in lists_in(answer)]
        self.assertEqual(len(set(own)), len(own))
        sets = strikes_by_words(order, done)
        if answer[0] == "none":
            self.assertEqual(len(answer), 2)
            self.check_papers(may, ties, done, answer[1], sets)
            return None
        self.assertEqual(len(answer), 4)
        word, some, hands, papers = answer
        self.assertEqual(word, "mend")
        self.assertIs(type(some), list)
        self.assertIn(some, sets)
        left = held_by_words(may, without_strikes(done, some))
        self.assertIs(type(hands), list)
        self.assertTrue(all(type(hand) is int for hand in hands))
        self.assertTrue(is_plan_by_words(left, ties, hands), (may, ties, order, done, answer))
        self.assertIs(fits(held(may, struck(done, some)), ties, hands), True)
        self.check_papers(may, ties, done, papers, [one for one in sets if len(one) < len(some)])
        return some

    def check_papers(self, may, ties, done, papers, sets):
        """There is one pair for each of the sets, and no other."""
        self.assertIs(type(papers), list)
        self.assertTrue(all(type(pair) is tuple and len(pair) == 2 for pair in papers))
        self.assertEqual(sorted(some for some, paper in papers), sorted(sets), (may, ties, done, papers))
        for some, paper in papers:
            self.assertIs(type(some), list)
            left = held_by_words(may, without_strikes(done, some))
            self.assertTrue(shows_by_words(left, ties, paper), (left, ties, some, paper))
            self.assertIs(shows(held(may, struck(done, some)), ties, paper), True)

    def check_whole(self, may, ties, order, done):
        """As check, and every choice of hands is tried for every set of strikes."""
        some = self.check(may, ties, order, done)
        healing = [
            len(one) for one in strikes_by_words(order, done)
            if has_plan_by_words(held_by_words(may, without_strikes(done, one)), ties)
        ]
        self.assertEqual(None if some is None else len(some), min(healing, default=None), (may, ties, order, done))
        return some

    def test_nothing_to_mend(self):
        self.assertEqual(mend([[1]], [], [], [None]), ("mend", [], [1], []))
        self.assertEqual(mend([[1]], [], [], [9]), ("mend", [], [9], []))
        self.assertEqual(mend([[], [2]], [], [(0, 1)], [9, None]), ("mend", [], [9, 2], []))
        self.assertEqual(mend([[1, 2], [1, 2]], [("least", 2, (0, 1))], [], [2, None]), ("mend", [], [2, 1], []))
        self.assertEqual(mend([[1, 2]] * 6, [("most", 1, ALL)], [], [TOP] * 6), ("mend", [], [TOP] * 6, []))

    def test_one_strike(self):
        ties = [("least", 2, (0, 1))]
        word, some, hands, papers = mend([[1], [1, 2]], ties, [(0, 1)], [1, 1])
        self.assertEqual((word, some, hands), ("mend", [1], [1, 2]))
        self.assertEqual([pair[0] for pair in papers], [[]])
        self.assertEqual(self.check_whole([[1], [1, 2]], ties, [], [1, 1]), [1])
        self.assertEqual(self.check_whole([[1, 2], [1]], ties, [], [1, 1]), [0])
        # Either step would do.
        self.assertIn(self.check_whole([[1, 2], [1, 2]], ties, [], [1, 1]), ([0], [1]))

    def test_what_stands_behind_is_struck_too(self):
        ties = [("most", 1, (0, 3))]
        may = [[1, 2], [4], [4], [2]]
        self.assertEqual(self.check_whole(may, ties, [], [1, 4, 4, None]), [0])
        self.assertEqual(self.check_whole(may, ties, [(0, 1)], [1, 4, 4, None]), [0, 1])
        self.assertEqual(self.check_whole(may, ties, [(0, 2)], [1, 4, 4, None]), [0, 2])
        self.assertEqual(self.check_whole(may, ties, [(0, 1), (1, 2)], [1, 4, 4, None]), [0, 1, 2])
        self.assertEqual(self.check_whole(may, ties, [(0, 1), (1, 2)], [1, 4, None, None]), [0, 1])
        self.assertEqual(self.check_whole(may, ties, [(1, 0), (1, 2)], [1, 4, 4, None]), [0])

    def test_the_first_steps_are_not_struck_where_fewer_would_do(self):
        ties = [("least", 2, (0, 3)), ("least", 2, (1, 3)), ("least", 2, (2, 3))]
        may = [[1, 2], [1, 2], [1, 2], [1, 2]]
        self.assertEqual(self.check_whole(may, ties, [], [1, 1, 1, 1]), [3])
        self.assertIn(self.check_whole(may, ties, [], [1, 2, 1, 1]), ([0, 2], [1, 3]))
        self.assertEqual(self.check_whole([[1], [1, 2], [1], [1, 2]], ties, [], [1, 2, 1, 1]), [1, 3])
        self.assertEqual(self.check_whole(may, ties, [(3, 0), (3, 1), (3, 2)], [1, 1, 1, 1]), [0, 1, 2])
        self.assertEqual(self.check_whole(may, ties, [(3, 0), (3, 1), (3, 2)], [None, None, None, 1]), [])

    def test_papers_of_as_many_members_are_not_told(self):
        for place in ALL:
            may = [[1, 2] if step == place else [1] for step in ALL]
            word, some, hands, papers = mend(may, [("least", 2, ALL)], [], [1] * 6)
            self.assertEqual((word, some), ("mend", [place]))
            self.assertEqual([pair[0] for pair in papers], [[]])

    def test_none_heals(self):
        for may, ties, order, done in (
            ([[]], [], [], [None]), ([[1], []], [], [], [1, None]), ([[1], []], [], [(0, 1)], [1, None]),
            ([[1]], [("least", 2, (0,))], [], [1]), ([[1], [1]], [("least", 2, (0, 1))], [(1, 0)], [1, 1]),
            ([[1, 2]] * 6, [("least", 3, ALL)], [], [1] * 6), ([[1, 2]] * 6, [("least", 3, ALL)], [(0, 5)], [1] * 6),
            ([[3], [4]], [("most", 1, (0, 1))], [], [3, 4]), ([[3], [4]], [("most", 1, (0, 1))], [], [None, None]),
        ):
            self.assertIsNone(self.check_whole(deepcopy(may), ties, order, done))
            word, papers = mend(deepcopy(may), ties, order, done)
            self.assertEqual(len(papers), len(strikes_by_words(order, done)))

    def test_a_hand_who_may_no_longer(self):
        # What is done stays done by its hand, and nobody could do it over.
        self.assertEqual(mend([[], [2]], [], [], [9, None]), ("mend", [], [9, 2], []))
        self.assertIsNone(self.check_whole([[], [2]], [("most", 1, (0, 1))], [], [9, None]))
        self.assertEqual(self.check_whole([[2], [2]], [("most", 1, (0, 1))], [], [9, None]), [0])
        self.assertIsNone(self.check_whole([[], [2]], [("most", 1, (0, 1))], [], [9, 8]))

    def test_all_of_two_steps(self):
        lists = subsets([1, TOP])
        ties = [[]] + [[tie] for tie in ties_of(2) if tie[1] <= 2]
        for first, second in itertools.product(lists, repeat=2):
            for order in orders_without_ring(2):
                for done in dones_of(order, 2, [1, TOP]):
                    for some in ties:
                        self.check_whole([list(first), list(second)], some, order, done)

    def test_all_orders_of_three_steps(self):
        may = [[1, 2], [1, 3], [2, 3]]
        for order in orders_without_ring(3):
            for done in dones_of(order, 3, [1, 2]):
                for tie in ties_of(3):
                    if tie[1] <= 3:
                        self.check_whole(may, [tie], order, done)

    def test_many(self):
        chance = random.Random(23)
        sizes = {}
        for number in range(1500):
            count = chance.randint(1, 6)
            badges = sorted(chance.sample(range(1, 50), chance.randint(1, 3)) + [TOP])
            least = 0 if number % 10 == 0 else 1
            may = [sorted(chance.sample(badges, chance.randint(least, min(3, len(badges))))) for step in range(count)]
            order = some_order(chance, count, chance.choice((0, 4, 8, 40)))
            # Some hands are in their steps' lists, and some are in none.
            lists = [there + [badges[0], 60] for there in may]
            done = some_done(chance, order, lists, chance.choice((0.5, 0.8, 1)))
            ties = [some_tie(chance, count) for place in range(chance.choice((1, 1, 2, 3)))]
            some = self.check_whole(may, ties, order, done)
            size = None if some is None else len(some)
            sizes[size] = sizes.get(size, 0) + 1
        for size in (None, 0, 1, 2, 3, 4):
            self.assertGreater(sizes.get(size, 0), 10, size)

    def test_twenty_badges_and_twelve_ties(self):
        chance = random.Random(24)
        words = []
        for number in range(150):
            badges = list(range(1, 20)) + [TOP]
            may = [sorted(chance.sample(badges, chance.randint(1, 20))) for step in ALL]
            order = some_order(chance, 6, chance.choice((0, 3, 40)))
            done = some_done(chance, order, [badges] * 6, 1)
            self.assertEqual(len(done_steps(done)), 6)
            ties = [some_tie(chance, 6) for place in range(chance.choice((1, 2, 4, 12)))]
            words.append(self.check(may, ties, order, done) is None)
        self.assertGreater(words.count(True), 20)
        self.assertGreater(words.count(False), 20)

    def test_somewhat_more_steps(self):
        may = [[1, 2]] * 7
        some = self.check(may, [("most", 1, (0, 6))], [(0, 1), (6, 5)] * 25, [1, 1, 1, 1, 1, 1, 2])
        self.assertIn(some, ([0, 1], [5, 6]))


class OwnTest(unittest.TestCase):
    ORDERS = ([], [(0, 1)], [(2, 0), (2, 0)], [(0, 1), (1, 2)])

    def test_strikes(self):
        check_own(self, strikes, [], [])
        for order in self.ORDERS:
            for done in dones_of(order, 3, [5]):
                check_own(self, strikes, deepcopy(order), done)

    def test_struck(self):
        check_own(self, struck, [], [])
        for done in itertools.product((None, 5), repeat=3):
            for steps in subsets(range(3)):
                check_own(self, struck, list(done), steps)

    def test_mend(self):
        for order in self.ORDERS:
            for done in dones_of(order, 3, [1, 2]):
                for ties in ([], [("most", 1, (0, 1))], [("least", 2, (0, 2))], [("least", 4, (0, 1, 2))]):
                    may = [[1, 2], [1, 2], [2]]
                    check_own(self, mend, may, list(ties), deepcopy(order), list(done))
                    check_own(self, mend, [[1, 2]] * 3, list(ties), deepcopy(order), list(done))


if __name__ == "__main__":
    unittest.main()
