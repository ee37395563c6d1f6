import itertools
import random
import unittest
from copy import deepcopy

from deskround.errors import TooMany
from deskround.needs import needed
from deskround.papers import shows
from deskround.plans import fits, plan
from helper import (
    TOP, check_own, check_refused, has_plan_by_words, is_plan_by_words, lists_in, shows_by_words, some_tie, subsets,
    ties_of,
)

ALL = (0, 1, 2, 3, 4, 5)


def badges_in(may):
    return sorted(set().union(*may))


def lists_without(may, gone):
    return [[badge for badge in badges if badge not in gone] for badges in may]


def fewest_by_words(may, ties):
    """How many badges stop, with every choice of badges and, without them, of hands tried."""
    for gone in subsets(badges_in(may)):
        if not has_plan_by_words(lists_without(may, gone), ties):
            return len(gone)
    raise AssertionError("all badges stop")


class NeededTest(unittest.TestCase):
    def check(self, may, ties):
        """Holds an answer against the words of the document, and gives back how many badges it tells."""
        as_handed = repr((may, ties))
        answer = needed(may, ties)
        self.assertEqual(repr((may, ties)), as_handed)
        self.assertIs(type(answer), tuple)
        self.assertEqual(len(answer), 4)
        word, badges, paper, plans = answer
        self.assertEqual(word, "stops")
        self.assertIs(type(badges), list)
        self.assertTrue(all(type(badge) is int for badge in badges))
        self.assertEqual(badges, sorted(set(badges)))
        self.assertIs(type(plans), list)
        own = [id(one) for one in lists_in(answer)]
        self.assertEqual(len(set(own)), len(own))
        self.check_paper(may, ties, badges, paper)
        self.check_plans(may, ties, badges, plans)
        return len(badges)

    def check_paper(self, may, ties, badges, paper):
        left = lists_without(may, badges)
        self.assertTrue(shows_by_words(left, ties, paper), (may, ties, badges, paper))
        self.assertIs(shows(left, ties, paper), True)
        self.assertEqual(plan(left, ties)[0], "none")

    def check_plans(self, may, ties, badges, plans):
        for hands in plans:
            self.assertIs(type(hands), list)
            self.assertTrue(is_plan_by_words(may, ties, hands), (may, ties, plans))
            self.assertIs(fits(may, ties, hands), True)
        # A badge that is in no list, too, is among those that are taken away.
        for gone in subsets(badges_in(may) + [TOP - 7]):
            if len(gone) < len(badges):
                self.assertTrue(any(not set(hands) & set(gone) for hands in plans), (may, ties, gone, plans))
        if not badges:
            self.assertEqual(plans, [])

    def check_whole(self, may, ties):
        """As check, and every choice of badges and hands is tried."""
        size = self.check(may, ties)
        self.assertEqual(size, fewest_by_words(may, ties), (may, ties))
        return size

    def test_one_step(self):
        self.assertEqual(needed([[7]], [])[:2], ("stops", [7]))
        self.assertEqual(needed([[7]], [])[3], [[7]])
        self.assertEqual(needed([[1, 2, TOP]], [])[1], [1, 2, TOP])
        self.assertEqual(sorted(needed([[1, 2, TOP]], [])[3]), [[1], [2], [TOP]])
        for badges in subsets([1, 2, 3, 4, 5, TOP]):
            for tie in [None] + ties_of(1):
                ties = [tie] if tie else []
                size = 0 if tie and tie[0] == "least" and tie[1] > 1 else len(badges)
                self.assertEqual(self.check_whole([list(badges)], ties), size)

    def test_only_one_answer(self):
        self.assertEqual(needed([[1, 2], [2]], [])[1], [2])
        self.assertEqual(needed([[1], [1, 2, 3], [1, 3]], [])[1], [1])
        self.assertEqual(needed([[1, 2, 3], [4], [1, 2, 3]], [("most", 2, (0, 1, 2))])[1], [4])
        self.assertEqual(needed([[1, 2, 5], [2, 5, 6], [3, 4, 5]], [("most", 1, (0, 1, 2))])[1], [5])
        self.assertEqual(needed([[1, 2, 5], [2, 5, 6], [2, 4, 5]], [("most", 1, (0, 1, 2))])[1], [2, 5])
        self.assertEqual(needed([[1, 2, TOP], [3, 4, 5], [1, 2, 3, 4, TOP]], [("most", 1, (0, 2))])[1], [1, 2, TOP])

    def test_any_one_of_those_that_stop(self):
        may = [[1, 2, 3, 4, 5, 6] for step in ALL]
        for bound in range(1, 7):
            self.assertEqual(self.check(may, [("least", bound, ALL)]), 7 - bound)
            self.assertEqual(self.check(may, [("most", bound, ALL)]), 6)
        self.assertEqual(self.check(may, [("most", 3, ALL), ("least", 3, (1, 3, 5))]), 4)

    def test_no_plan_at_all(self):
        for may, ties in (
            ([[]], []), ([[], []], []), ([[1], []], []), ([[], [1, 2], [3]], []), ([[1, 2, 3, 4, TOP]] * 5 + [[]], []),
            ([[1]], [("least", 2, (0,))]), ([[1], [2]], [("most", 1, (0, 1))]), ([[4], [4]], [("least", 2, (0, 1))]),
            ([[1, 2], [1, 2], [1, 2]], [("least", 3, (0, 1, 2))]), ([[step + 1] for step in ALL], [("most", 5, ALL)]),
        ):
            self.assertEqual(self.check_whole(deepcopy(may), ties), 0)
            answer = needed(deepcopy(may), ties)
            self.assertEqual((answer[1], answer[3]), ([], []))

    def test_ties_that_cannot_be_kept_together(self):
        for ties in (
            [("most", 1, (0, 1)), ("least", 2, (0, 1))],
            [("most", 5, ALL), ("least", 6, ALL)],
            [("most", 1, (0, 1)), ("most", 1, (1, 2)), ("least", 2, (0, 2))],
            [("most", 1, (0, 5)), ("most", 1, (1, 4)), ("least", 5, ALL)],
            [("least", 2, (0, 1)), ("least", 2, (1, 2)), ("least", 2, (0, 2)), ("most", 2, (0, 1, 2, 3))],
        ):
            for size in range(7):
                for order in (ties, ties[::-1]):
                    self.assertEqual(self.check([list(range(TOP - size + 1, TOP + 1)) for step in ALL], order), 0)

    def test_empty_lists(self):
        for count in range(1, 7):
            for places in itertools.product((False, True), repeat=count):
                may = [[] if empty else [1, 2, 3] for empty in places]
                for ties in ([], [("most", 1, tuple(range(count)))], [("least", 1, (count - 1,))]):
                    self.assertEqual(self.check(may, ties), 0 if any(places) else 3)

    def test_all_mays_of_two_steps(self):
        ties = [[]] + [[tie] for tie in ties_of(2) if tie[1] <= 3]
        for first, second in itertools.product(subsets([1, 2, TOP]), repeat=2):
            for some in ties:
                self.check_whole([list(first), list(second)], some)

    def test_many_of_few_badges(self):
        # The seed is written here, so that each run asks the same.
        chance = random.Random(17)
        sizes = []
        for number in range(1500):
            count = chance.randint(1, 4)
            badges = sorted(chance.sample(range(1, 50), chance.randint(0, 3)) + [TOP])
            least = 0 if number % 10 == 0 else 1
            may = [sorted(chance.sample(badges, chance.randint(least, len(badges)))) for step in range(count)]
            ties = [some_tie(chance, count) for place in range(chance.choice((0, 0, 1, 2, 3)))]
            sizes.append(self.check_whole(may, ties))
        for size in range(4):
            self.assertGreater(sizes.count(size), 50, size)

    def test_many_of_six_badges(self):
        chance = random.Random(18)
        sizes = {}
        for number in range(1200):
            count = chance.randint(1, 6)
            badges = sorted(chance.sample(range(1, 50), 5) + [TOP])
            least = chance.choice((1, 1, 3, 5)) if number % 10 else 0
            may = [sorted(chance.sample(badges, chance.randint(least, 6))) for step in range(count)]
            ties = [some_tie(chance, count) for place in range(chance.choice((0, 1, 2, 3, 12)))]
            size = self.check(may, ties)
            sizes[count, size] = sizes.get((count, size), 0) + 1
        for count in range(1, 7):
            for size in range(5):
                self.assertGreater(sizes.get((count, size), 0), 2, (count, size))

    def test_seven_steps(self):
        may = [[1, 2, 3], [1, 2], [2, 3], [1, 2, 3, 4], [1, 3], [1, 2, 3], [1, 2, 4]]
        self.assertEqual(self.check(may, [("most", 2, (0, 6))] * 14), 2)


class TooManyTest(unittest.TestCase):
    def test_seven_and_more_in_one_list(self):
        for size in range(7, 23):
            badges = list(range(1, size)) + [TOP]
            for count in (1, 2, 6):
                for place in range(count):
                    may = [list(badges) if step == place else [1] for step in range(count)]
                    check_refused(self, TooMany, needed, may, [])

    def test_seven_and_more_in_several_lists(self):
        check_refused(self, TooMany, needed, [[1, 2, 3], [4, 5, 6, 7]], [])
        check_refused(self, TooMany, needed, [[1, 2], [3], [4], [5], [6], [TOP]], [])
        check_refused(self, TooMany, needed, [[1, 2, 3, 4, 5, 6], [7]], [("least", 2, (0, 1))])
        check_refused(self, TooMany, needed, [[7]] + [[1, 2, 3, 4, 5, 6]] * 5, [])
        check_refused(self, TooMany, needed, [[step, step + 7, step + 14] for step in range(1, 7)], [])

    def test_refused_where_there_is_no_plan_too(self):
        check_refused(self, TooMany, needed, [[1, 2, 3, 4, 5, 6, 7], []], [])
        check_refused(self, TooMany, needed, [[1, 2, 3, 4], [5, 6, 7]], [("most", 1, (0, 1))])
        check_refused(self, TooMany, needed, [[1, 2, 3, 4, 5, 6, 7]], [("least", 2, (0,))])

    def test_six_badges_in_many_lists_are_not_refused(self):
        self.assertEqual(len(needed([[1, 2, 3, 4, 5, 6]] * 6, [])[1]), 6)
        self.assertEqual(needed([[1], [2], [3], [4], [5], [TOP]], [])[0], "stops")
        self.assertEqual(needed([[1, 2], [2, 3], [3, 4], [4, 5], [5, 6], [1, 6]], [])[0], "stops")


class OwnTest(unittest.TestCase):
    def test_needed(self):
        for may, ties in (
            ([[1]], []), ([[]], []), ([[1, 2], [2, 3]], [("most", 1, (0, 1))]), ([[1], [1]], [("least", 2, (0, 1))]),
            ([[1, 2], [1, 2], [1, 2]], [("least", 2, (0, 1, 2))]), ([[1, 2, 3, 4, 5, TOP]] * 6, [("most", 2, ALL)]),
        ):
            check_own(self, needed, deepcopy(may), list(ties))
            check_own(self, needed, [list(badges) for badges in may], list(ties))


if __name__ == "__main__":
    unittest.main()
