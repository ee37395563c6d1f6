import itertools
import random
import unittest

from deskround.badges import is_badge, is_whole
from deskround.bills import bears, minutes_of
from deskround.papers import shows
from deskround.plans import fits, plan
from deskround.quick import quick
from helper import (
    TOP, bears_by_words, check_own, fewest_minutes, is_plan_by_words, lists_in, may_by_words, minutes_by_words,
    shows_by_words, some_bill, some_tie, subsets, ties_of,
)

ALL = (0, 1, 2, 3, 4, 5)


def numbers_in(thing):
    if isinstance(thing, (list, tuple)):
        return [number for part in thing for number in numbers_in(part)]
    return [thing] if is_whole(thing) else []


class QuickTest(unittest.TestCase):
    def check(self, bill, ties):
        """Holds an answer against the words of the document, and gives back its minutes or None."""
        as_handed = repr((bill, ties))
        answer = quick(bill, ties)
        self.assertEqual(repr((bill, ties)), as_handed)
        self.assertIs(type(answer), tuple)
        own = [id(one) for one in lists_in(answer)]
        self.assertEqual(len(set(own)), len(own))
        for number in numbers_in(answer[-1]):
            self.assertLess(abs(number), 10 ** 60)
        if answer[0] == "none":
            self.check_none(bill, ties, answer)
            return None
        self.check_plan(bill, ties, answer)
        return answer[2]

    def check_none(self, bill, ties, answer):
        self.assertEqual(len(answer), 2)
        may = may_by_words(bill)
        self.assertTrue(shows_by_words(may, ties, answer[1]), (bill, ties, answer))
        self.assertIs(shows(may, ties, answer[1]), True)
        self.assertEqual(plan(may, ties)[0], "none")

    def check_plan(self, bill, ties, answer):
        self.assertEqual(len(answer), 4)
        word, hands, total, paper = answer
        self.assertEqual(word, "plan")
        self.assertIs(type(hands), list)
        self.assertTrue(all(is_badge(hand) for hand in hands))
        may = may_by_words(bill)
        self.assertTrue(is_plan_by_words(may, ties, hands), (bill, ties, answer))
        self.assertIs(fits(may, ties, hands), True)
        self.assertTrue(is_whole(total))
        self.assertEqual(total, minutes_by_words(bill, hands), (bill, ties, answer))
        self.assertEqual(total, minutes_of(bill, hands))
        self.assertTrue(bears_by_words(bill, ties, total, paper), (bill, ties, answer))
        self.assertFalse(bears_by_words(bill, ties, total + 1, paper), (bill, ties, answer))
        for bound in (total, total - 1, 0, -1):
            self.assertIs(bears(bill, ties, bound, paper), bound <= total)
        for bound in (total + 1, total + TOP):
            self.assertIs(bears(bill, ties, bound, paper), False)
        self.assertIs(shows(may, ties, paper), False)

    def check_whole(self, bill, ties):
        """As check, and every choice of hands is tried."""
        total = self.check(bill, ties)
        self.assertEqual(total, fewest_minutes(bill, ties), (bill, ties))
        return total

    def test_one_step(self):
        self.assertEqual(quick([[(7, 3)]], [])[:3], ("plan", [7], 3))
        self.assertEqual(quick([[(1, 5), (2, 3), (3, 4)]], [])[:3], ("plan", [2], 3))
        self.assertEqual(quick([[(TOP, TOP)]], [("most", 1, (0,)), ("least", 1, (0,))])[:3], ("plan", [TOP], TOP))
        self.assertIsNone(self.check([[]], []))
        self.assertIsNone(self.check([[(1, 4)]], [("least", 2, (0,))]))
        for tie in ties_of(1):
            for badges in subsets([1, 2, TOP]):
                for minutes in (0, 1, TOP):
                    self.check_whole([[(badge, minutes) for badge in badges]], [tie])

    def test_only_one_quickest_plan(self):
        bill = [[(1, 2), (2, 6)], [(1, 3), (2, 9)]]
        self.assertEqual(quick(bill, [])[:3], ("plan", [1, 1], 5))
        self.assertEqual(quick(bill, [("least", 2, (0, 1))])[:3], ("plan", [2, 1], 9))
        self.assertEqual(quick(bill, [("most", 1, (0, 1))])[:3], ("plan", [1, 1], 5))
        bill = [[(1, 4), (2, 0)], [(1, 4), (2, 9)], [(1, 4), (3, 0)]]
        self.assertEqual(quick(bill, [("most", 1, (0, 1))])[:3], ("plan", [1, 1, 3], 8))
        self.assertEqual(quick(bill, [("most", 1, (0, 1, 2))])[:3], ("plan", [1, 1, 1], 12))
        self.assertEqual(quick(bill, [])[:3], ("plan", [2, 1, 3], 4))
        self.assertEqual(quick(bill, [("least", 2, (0, 1)), ("most", 2, (0, 1, 2))])[:3], ("plan", [2, 1, 1], 8))
        bill = [[(step, 0), (9, TOP)] for step in range(1, 7)]
        self.assertEqual(quick(bill, [])[:3], ("plan", [1, 2, 3, 4, 5, 6], 0))
        self.assertEqual(quick(bill, [("most", 1, ALL)])[:3], ("plan", [9] * 6, 6 * TOP))
        self.assertEqual(quick(bill, [("most", 5, ALL), ("most", 1, (0, 5))])[2], 2 * TOP)

    def test_quicker_plans_are_found_whatever_comes_first(self):
        bill = [[(1, 7), (2, 6), (3, 0)], [(1, 1), (2, 8), (3, 5)], [(1, 3), (2, 2), (3, 9)]]
        for order in itertools.permutations(range(3)):
            total = self.check_whole([bill[step] for step in order], [])
            self.assertEqual(total, 3)
            total = self.check_whole([bill[step] for step in order], [("most", 1, (0, 1, 2))])
            self.assertEqual(total, 11)

    def test_empty_lists(self):
        for count in range(1, 7):
            for places in itertools.product((False, True), repeat=count):
                bill = [[] if empty else [(1, 3), (2, 2), (3, 4)] for empty in places]
                for ties in ([], [("most", 2, tuple(range(count)))], [("least", 1, (count - 1,))]):
                    self.assertEqual(self.check(bill, ties), None if any(places) else 2 * count)

    def test_ties_that_cannot_be_kept_together(self):
        for ties in (
            [("most", 1, (0, 1)), ("least", 2, (0, 1))],
            [("most", 5, ALL), ("least", 6, ALL)],
            [("most", 1, (0, 1)), ("most", 1, (1, 2)), ("least", 2, (0, 2))],
            [("most", 1, (0, 5)), ("most", 1, (1, 4)), ("least", 5, ALL)],
            [("least", 2, (0, 1)), ("least", 2, (1, 2)), ("least", 2, (0, 2)), ("most", 2, (0, 1, 2, 3))],
        ):
            for size in (1, 3, 20):
                bill = [[(badge, badge % 7) for badge in range(TOP - size + 1, TOP + 1)] for step in range(6)]
                for order in (ties, ties[::-1]):
                    self.assertIsNone(self.check(bill, order))

    def test_minutes_of_nought(self):
        for count in range(1, 7):
            for size in (1, 2, 7):
                bill = [[(badge, 0) for badge in range(1, size + 1)] for step in range(count)]
                self.assertEqual(self.check(bill, []), 0)
                self.assertEqual(self.check(bill, [("least", count, tuple(range(count)))]), None if size < count else 0)

    def test_alike_minutes(self):
        for count in range(1, 7):
            for minutes in (1, TOP):
                for size in (1, 2, 6, 20):
                    bill = [[(badge, minutes) for badge in range(1, size + 1)] for step in range(count)]
                    self.assertEqual(self.check(bill, []), minutes * count)

    def test_done_steps(self):
        # As of a file in which some steps are done: their hands alone, with 0 minutes.
        bill = [[(4, 0)], [(1, 1), (2, 5)], [(4, 0)], [(1, 1), (2, 3), (4, 1)]]
        self.assertEqual(self.check_whole(bill, []), 2)
        self.assertEqual(self.check_whole(bill, [("least", 2, (1, 3)), ("least", 2, (2, 3))]), 4)
        self.assertEqual(quick(bill, [("least", 2, (1, 3)), ("least", 2, (2, 3))])[:3], ("plan", [4, 1, 4, 2], 4))
        self.assertEqual(self.check_whole([[(1, 0)], [(2, 0)]], []), 0)
        self.assertIsNone(self.check_whole([[(1, 0)], [(2, 0)]], [("most", 1, (0, 1))]))

    def test_all_small_bills_of_two_steps(self):
        lists = [
            [pair for pair in ((1, one), (TOP, other)) if pair[1] is not None]
            for one in (None, 0, 1, 3) for other in (None, 0, 2)
        ]
        ties = [[], [("most", 1, (0, 1))], [("least", 2, (0, 1))], [("most", 1, (0, 1)), ("least", 2, (0, 1))]]
        for first, second in itertools.product(lists, repeat=2):
            for some in ties:
                self.check_whole([list(first), list(second)], some)

    def test_all_bills_of_three_steps_with_two_badges(self):
        for minutes in itertools.product((0, 1, 4), repeat=6):
            bill = [[(1, minutes[place]), (2, minutes[place + 1])] for place in (0, 2, 4)]
            self.check_whole(bill, [])
            self.check_whole(bill, [("least", 2, (0, 1)), ("most", 1, (1, 2))])

    def test_each_tie_of_three_steps(self):
        chance = random.Random(20)
        for tie in ties_of(3):
            for number in range(8):
                self.check_whole(some_bill(chance, 3, 4), [tie])

    def test_many_bills_and_ties(self):
        # The seed is written here, so that each run asks the same.
        chance = random.Random(16)
        words = {}
        for number in range(1500):
            count = chance.randint(1, 6)
            bill = some_bill(chance, count, 4)
            ties = [some_tie(chance, count) for place in range(chance.choice((0, 1, 1, 2, 2, 3, 6, 12)))]
            word = "none" if self.check_whole(bill, ties) is None else "plan"
            words[count, word] = words.get((count, word), 0) + 1
        for count in range(1, 7):
            for word in ("plan", "none"):
                self.assertGreater(words[count, word], 15, (count, word))

    def test_twenty_badges_and_twelve_ties(self):
        chance = random.Random(17)
        totals = []
        for number in range(60):
            top = chance.choice((0, 1, 5, TOP))
            badges = list(range(1, 20)) + [TOP]
            bill = [
                [(badge, chance.randint(0, top)) for badge in sorted(chance.sample(badges, chance.randint(1, 20)))]
                for step in ALL
            ]
            ties = [some_tie(chance, 6) for place in range(chance.choice((0, 1, 2, 3, 12)))]
            totals.append(self.check(bill, ties))
        self.assertGreater(totals.count(None), 5)
        self.assertGreater(len(totals) - totals.count(None), 20)

    def test_full_lists(self):
        chance = random.Random(18)
        for low, top in ((0, 0), (1, 1), (0, TOP), (TOP - 9, TOP)):
            bill = [[(badge, chance.randint(low, top)) for badge in range(TOP - 19, TOP + 1)] for step in ALL]
            for ties in ([], [("least", 6, ALL)], [("most", 1, ALL)], [("most", 2, ALL), ("least", 2, ALL)]):
                self.assertIsNotNone(self.check(bill, ties))
            self.assertEqual(quick(bill, [])[2], sum(min(minutes for badge, minutes in pairs) for pairs in bill))

    def test_somewhat_more_steps_and_minutes(self):
        bill = [[(badge, badge * 10 ** 20) for badge in range(1, 4)] for step in range(7)]
        word, hands, total, paper = quick(bill, [("least", 2, (0, 6))])
        self.assertEqual((word, total), ("plan", 8 * 10 ** 20))
        self.assertIs(bears(bill, [("least", 2, (0, 6))], total, paper), True)
        self.assertIs(bears(bill, [("least", 2, (0, 6))], total + 1, paper), False)


class OwnTest(unittest.TestCase):
    CASES = (
        ([[(1, 5)]], []), ([[]], []), ([[(1, 0)]], []), ([[(1, 2), (2, 6)], [(1, 3), (2, 9)]], []),
        ([[(1, 2), (2, 6)], [(1, 3), (2, 9)]], [("least", 2, (0, 1))]), ([[(1, 1)], [(1, 1)]], [("least", 2, (0, 1))]),
        ([[(1, 1), (2, 1)]] * 4, [("most", 1, (0, 1)), ("least", 2, (1, 2))]),
    )

    def test_quick(self):
        for bill, ties in self.CASES:
            check_own(self, quick, [list(pairs) for pairs in bill], list(ties))

    def test_one_list_at_several_places(self):
        for ties in ([], [("least", 2, (0, 1))], [("least", 3, (0, 1, 2))]):
            pairs = [(1, 4), (2, 6)]
            check_own(self, quick, [pairs, pairs, pairs], ties)


if __name__ == "__main__":
    unittest.main()
