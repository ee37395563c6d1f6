import itertools
import random
import unittest
from copy import deepcopy

from deskround.errors import Ring
from deskround.orders import line, ready, ring
from helper import (
    TOP, check_own, check_refused, has_ring_by_words, is_ring_by_words, some_order, subsets,
)


def pairs_of(count):
    return list(itertools.product(range(count), repeat=2))


def first_line(count, order):
    """The first in sorted order of all rows of the steps in which each stands behind all that are ahead of it."""
    rows = itertools.permutations(range(count))
    return next(list(row) for row in rows if all(row.index(ahead) < row.index(behind) for ahead, behind in order))


def ready_by_words(order, done):
    return [
        step for step, hand in enumerate(done)
        if hand is None and not [ahead for ahead, behind in order if behind == step and done[ahead] is None]
    ]


def some_pairs(chance, count, most):
    return [(chance.randrange(count), chance.randrange(count)) for number in range(chance.randint(0, most))]


class OrderTest(unittest.TestCase):
    def check(self, count, order):
        """Holds ring and line against the words of the document, and gives back the ring."""
        as_handed = list(order)
        told = ring(count, order)
        self.assertEqual(order, as_handed)
        self.assertIs(type(told), list)
        if told:
            self.assertTrue(all(type(step) is int and 0 <= step < count for step in told), (count, order, told))
            self.assertTrue(is_ring_by_words(order, told), (count, order, told))
            check_refused(self, Ring, line, count, order)
        else:
            self.check_line(count, order)
        return told

    def check_line(self, count, order):
        row = line(count, order)
        self.assertIs(type(row), list)
        self.assertTrue(all(type(step) is int for step in row))
        self.assertEqual(sorted(row), list(range(count)), (count, order, row))
        for place, step in enumerate(row):
            there = row[:place]
            fit = [
                one for one in range(count)
                if one not in there and all(ahead in there for ahead, behind in order if behind == one)
            ]
            self.assertEqual(step, min(fit), (count, order, row))

    def check_whole(self, count, order):
        """As check, and every row of steps is tried."""
        told = self.check(count, order)
        self.assertEqual(bool(told), has_ring_by_words(count, order), (count, order))
        if not told:
            self.assertEqual(line(count, order), first_line(count, order), (count, order))
        return told

    def test_no_steps(self):
        self.assertEqual(ring(0, []), [])
        self.assertEqual(line(0, []), [])

    def test_no_pairs(self):
        for count in range(7):
            self.assertEqual(ring(count, []), [])
            self.assertEqual(line(count, []), list(range(count)))

    def test_a_step_ahead_of_itself(self):
        for count in range(1, 7):
            for step in range(count):
                self.assertEqual(ring(count, [(step, step)]), [step])
                self.assertEqual(ring(count, [(step, step)] * 2), [step])
                check_refused(self, Ring, line, count, [(step, step)])
                for other in range(count):
                    for order in ([(step, step), (other, step)], [(step, other), (step, step)]):
                        self.check_whole(count, order)

    def test_lines(self):
        self.assertEqual(line(2, [(0, 1)]), [0, 1])
        self.assertEqual(line(2, [(1, 0)]), [1, 0])
        self.assertEqual(line(3, [(2, 0)]), [1, 2, 0])
        self.assertEqual(line(3, [(2, 0), (2, 0), (0, 1)]), [2, 0, 1])
        self.assertEqual(line(4, [(3, 0)]), [1, 2, 3, 0])
        self.assertEqual(line(4, [(3, 0), (0, 1)]), [2, 3, 0, 1])
        self.assertEqual(line(6, [(5, 4), (4, 3), (3, 2), (2, 1), (1, 0)]), [5, 4, 3, 2, 1, 0])
        self.assertEqual(line(6, [(5, 0), (0, 3), (4, 1)]), [2, 4, 1, 5, 0, 3])

    def test_whole_rings(self):
        for count in range(2, 7):
            for row in itertools.permutations(range(count)):
                order = list(zip(row, row[1:] + row[:1]))
                told = self.check(count, order)
                self.assertEqual(sorted(told), list(range(count)))
                for place in range(count):
                    left = order[:place] + order[place + 1:]
                    self.assertEqual(ring(count, left), [])
                    self.assertEqual(line(count, left), list(row[place + 1:] + row[:place + 1]))

    def test_a_ring_among_other_steps(self):
        tail = [(0, 1), (1, 2), (2, 3), (3, 4), (4, 5)]
        for ahead, behind in itertools.combinations(range(6), 2):
            order = tail + [(behind, ahead)]
            for turned in (order, order[::-1]):
                told = self.check_whole(6, turned)
                self.assertEqual(sorted(told), list(range(ahead, behind + 1)))

    def test_steps_ahead_of_a_ring_and_behind_one(self):
        self.assertEqual(sorted(self.check_whole(4, [(0, 1), (1, 2), (2, 1), (2, 3)])), [1, 2])
        self.assertEqual(sorted(self.check_whole(4, [(3, 1), (1, 2), (2, 1), (2, 0)])), [1, 2])
        self.assertEqual(self.check_whole(3, [(0, 1), (1, 1), (1, 2)]), [1])
        self.assertEqual(self.check_whole(3, [(2, 1), (1, 1), (1, 0)]), [1])

    def test_two_rings(self):
        self.assertIn(sorted(self.check_whole(4, [(0, 1), (1, 0), (2, 3), (3, 2)])), ([0, 1], [2, 3]))
        order = [(0, 1), (1, 0), (1, 2), (2, 3), (3, 4), (4, 2)]
        self.assertIn(sorted(self.check_whole(5, order)), ([0, 1], [2, 3, 4]))
        self.assertIn(sorted(self.check_whole(3, [(0, 1), (1, 0), (1, 2), (2, 1)])), ([0, 1], [1, 2]))

    def test_all_orders_of_few_steps(self):
        for count in range(4):
            for order in subsets(pairs_of(count)):
                self.check_whole(count, order)

    def test_all_orders_of_four_steps_without_a_step_ahead_of_itself(self):
        pairs = [(ahead, behind) for ahead, behind in pairs_of(4) if ahead != behind]
        for order in subsets(pairs):
            self.check_whole(4, order)

    def test_pairs_twice(self):
        for order in subsets(pairs_of(2)):
            for other in subsets(pairs_of(2)):
                self.check_whole(2, order + other)
                self.check_whole(3, order + other)
        self.assertEqual(line(3, [(2, 1), (2, 1), (1, 0), (2, 1)]), [2, 1, 0])

    def test_many_orders(self):
        # The seed is written here, so that each run asks the same.
        chance = random.Random(18)
        sizes = {}
        for number in range(1500):
            count = chance.randint(1, 6)
            told = self.check_whole(count, some_pairs(chance, count, chance.choice((4, 8, 40))))
            sizes[len(told)] = sizes.get(len(told), 0) + 1
        for size in range(4):
            self.assertGreater(sizes[size], 20, size)

    def test_many_orders_without_a_ring(self):
        chance = random.Random(19)
        for number in range(1500):
            count = chance.randint(1, 6)
            order = some_order(chance, count, chance.choice((3, 6, 40)))
            self.assertEqual(self.check(count, order), [])
            self.assertEqual(line(count, order), first_line(count, order))

    def test_forty_pairs(self):
        chance = random.Random(20)
        row = [(ahead, behind) for ahead, behind in pairs_of(6) if ahead < behind]
        for number in range(100):
            order = [chance.choice(row) for place in range(40)]
            self.assertEqual(self.check(6, order), [])
            told = self.check(6, order[:39] + [(5, 0)])
            self.assertEqual(bool(told), has_ring_by_words(6, order[:39] + [(5, 0)]))

    def test_somewhat_more_steps_and_pairs(self):
        order = [(step + 1, step) for step in range(8)] * 6
        self.assertEqual(ring(9, order), [])
        self.assertEqual(line(9, order), [8, 7, 6, 5, 4, 3, 2, 1, 0])
        self.assertEqual(sorted(ring(9, order + [(0, 8)])), list(range(9)))
        check_refused(self, Ring, line, 9, order + [(0, 8)])
        self.assertEqual(ready(order, [None] * 9), [8])


class ReadyTest(unittest.TestCase):
    def check(self, order, done):
        as_handed = repr((order, done))
        told = ready(order, done)
        self.assertEqual(repr((order, done)), as_handed)
        self.assertIs(type(told), list)
        self.assertTrue(all(type(step) is int for step in told))
        self.assertEqual(told, ready_by_words(order, done), (order, done))

    def test_no_steps(self):
        self.assertEqual(ready([], []), [])

    def test_no_pairs(self):
        for count in range(1, 7):
            for done in itertools.product((None, 1), repeat=count):
                self.assertEqual(ready([], list(done)), [step for step in range(count) if done[step] is None])

    def test_some(self):
        order = [(0, 1), (1, 3), (2, 3)]
        self.assertEqual(ready(order, [None, None, None, None]), [0, 2])
        self.assertEqual(ready(order, [7, None, None, None]), [1, 2])
        self.assertEqual(ready(order, [7, 7, None, None]), [2])
        self.assertEqual(ready(order, [7, None, TOP, None]), [1])
        self.assertEqual(ready(order, [7, 7, TOP, None]), [3])
        self.assertEqual(ready(order, [7, 7, TOP, 1]), [])
        self.assertEqual(ready(order, [None, None, TOP, None]), [0])

    def test_a_done_step_behind_one_that_is_not(self):
        self.assertEqual(ready([(0, 1), (1, 2)], [None, 5, None]), [0, 2])
        self.assertEqual(ready([(0, 1)], [None, 5]), [0])

    def test_steps_of_a_ring(self):
        self.assertEqual(ready([(0, 0)], [None]), [])
        self.assertEqual(ready([(0, 0)], [3]), [])
        self.assertEqual(ready([(0, 1), (1, 0)], [None, None]), [])
        self.assertEqual(ready([(0, 1), (1, 0)], [3, None]), [1])
        self.assertEqual(ready([(1, 1), (1, 1)], [None, None, None]), [0, 2])

    def test_all_orders_of_few_steps(self):
        for count in range(4):
            for order in subsets(pairs_of(count)):
                for done in itertools.product((None, 4), repeat=count):
                    self.check(order, list(done))

    def test_many_orders(self):
        chance = random.Random(21)
        for number in range(600):
            count = chance.randint(1, 6)
            order = some_pairs(chance, count, chance.choice((3, 8, 40)))
            for done in itertools.product((None, chance.choice((1, 2, TOP))), repeat=count):
                self.check(order, list(done))


class OwnTest(unittest.TestCase):
    ORDERS = ([], [(0, 1)], [(2, 0), (2, 0)], [(0, 1), (1, 2)], [(0, 1), (1, 0)], [(1, 1)], [(0, 1), (1, 2), (2, 0)])

    def test_ring(self):
        check_own(self, ring, 0, [])
        for order in self.ORDERS:
            check_own(self, ring, 3, deepcopy(order))

    def test_line(self):
        check_own(self, line, 0, [])
        for order in self.ORDERS:
            if not has_ring_by_words(3, order):
                check_own(self, line, 3, deepcopy(order))
            else:
                check_refused(self, Ring, line, 3, deepcopy(order))

    def test_ready(self):
        check_own(self, ready, [], [])
        for order in self.ORDERS:
            for done in itertools.product((None, 5), repeat=3):
                check_own(self, ready, deepcopy(order), list(done))


if __name__ == "__main__":
    unittest.main()
