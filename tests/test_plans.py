import itertools
import random
import unittest

from deskround.papers import shows
from deskround.plans import fits, held, plan
from helper import (
    SPOILT, TOP, check_own, has_plan_by_words, is_plan_by_words, lists_in, shows_by_words, some_tie, subsets,
    ties_of,
)

ALL = (0, 1, 2, 3, 4, 5)


class FitsTest(unittest.TestCase):
    def test_plans(self):
        self.assertIs(fits([[1]], [], [1]), True)
        self.assertIs(fits([[1, 2], [2, 3]], [], [2, 2]), True)
        self.assertIs(fits([[1, 2], [2, 3]], [("least", 2, (0, 1))], [2, 3]), True)
        self.assertIs(fits([[1, 2], [2, 3]], [("most", 1, (0, 1))], [2, 2]), True)
        self.assertIs(fits([[TOP]] * 6, [("most", 1, ALL)], [TOP] * 6), True)
        self.assertIs(fits([[step + 1] for step in ALL], [("least", 6, ALL)], [1, 2, 3, 4, 5, 6]), True)

    def test_too_few_and_too_many_hands(self):
        for count in range(1, 7):
            may = [[1, 2] for step in range(count)]
            for size in range(10):
                self.assertIs(fits(may, [], [1] * size), size == count)
                self.assertIs(fits(may, [("most", 2, tuple(range(count)))], [2] * size), size == count)

    def test_a_hand_that_is_not_in_its_list(self):
        may = [[1, 4], [2, 5], [3, TOP]]
        for hands in itertools.product((1, 2, 3, 4, 5, TOP, 6), repeat=3):
            answer = hands[0] in (1, 4) and hands[1] in (2, 5) and hands[2] in (3, TOP)
            self.assertIs(fits(may, [], list(hands)), answer)

    def test_hands_that_break_a_tie(self):
        may = [[1, 2], [1, 2], [1, 2]]
        self.assertIs(fits(may, [("most", 1, (0, 2))], [1, 1, 2]), False)
        self.assertIs(fits(may, [("most", 1, (0, 2))], [1, 2, 1]), True)
        self.assertIs(fits(may, [("least", 2, (0, 1))], [1, 1, 2]), False)
        self.assertIs(fits(may, [("least", 2, (0, 1))], [1, 2, 2]), True)
        self.assertIs(fits(may, [("least", 3, (0, 1, 2))], [1, 2, 1]), False)

    def test_each_of_several_ties_counts(self):
        may = [[1, 2], [1, 2]]
        for count in range(1, 13):
            for place in range(count):
                ties = [("most", 2, (0, 1))] * count
                self.assertIs(fits(may, ties, [1, 2]), True)
                ties[place] = ("most", 1, (0, 1))
                self.assertIs(fits(may, ties, [1, 2]), False)

    def test_empty_lists(self):
        self.assertIs(fits([[]], [], [1]), False)
        self.assertIs(fits([[]], [], []), False)
        self.assertIs(fits([[1], []], [], [1, 1]), False)
        self.assertIs(fits([[1], []], [], [1]), False)
        self.assertIs(fits([[], []], [("most", 1, (0, 1))], [1, 1]), False)

    def test_all_hands_of_some_mays_and_ties(self):
        lists = subsets([1, 2, TOP])
        for first, second in itertools.product(lists, repeat=2):
            for ties in [[]] + [[tie] for tie in ties_of(2) if tie[1] <= 3]:
                for size in range(4):
                    for hands in itertools.product((1, 2, TOP), repeat=size):
                        answer = is_plan_by_words([first, second], ties, list(hands))
                        if fits([first, second], ties, list(hands)) is not answer:
                            self.fail((first, second, ties, hands))


class PlanTest(unittest.TestCase):
    def check(self, may, ties):
        """Holds an answer against the words of the document, and gives back its word."""
        as_handed = repr((may, ties))
        answer = plan(may, ties)
        self.assertEqual(repr((may, ties)), as_handed)
        self.assertIs(type(answer), tuple)
        self.assertEqual(len(answer), 2)
        word, told = answer
        self.assertIn(word, ("plan", "none"))
        if word == "plan":
            self.assertIs(type(told), list)
            self.assertTrue(all(type(hand) is int for hand in told))
            self.assertTrue(is_plan_by_words(may, ties, told), (may, ties, told))
            self.assertIs(fits(may, ties, told), True)
        else:
            self.assertTrue(shows_by_words(may, ties, told), (may, ties, told))
            self.assertIs(shows(may, ties, told), True)
        own = [id(one) for one in lists_in(told)]
        self.assertEqual(len(set(own)), len(own))
        return word

    def check_whole(self, may, ties):
        """As check, and every choice of hands is tried."""
        word = self.check(may, ties)
        self.assertEqual(word, "plan" if has_plan_by_words(may, ties) else "none", (may, ties))
        return word

    def test_one_step(self):
        self.assertEqual(plan([[7]], []), ("plan", [7]))
        self.assertEqual(plan([[TOP]], [("most", 1, (0,)), ("least", 1, (0,))]), ("plan", [TOP]))
        self.assertEqual(self.check([[1, 2, 3]], []), "plan")
        self.assertEqual(self.check([[]], []), "none")
        self.assertEqual(self.check([[1]], [("least", 2, (0,))]), "none")
        for tie in ties_of(1):
            for badges in subsets([1, TOP]):
                self.check_whole([badges], [tie])

    def test_only_one_plan(self):
        self.assertEqual(plan([[1, 2], [2, 3]], [("most", 1, (0, 1))]), ("plan", [2, 2]))
        self.assertEqual(plan([[1, 2], [2], [1, 2]], [("least", 2, (0, 1)), ("least", 2, (0, 2))]), ("plan", [1, 2, 2]))
        chain = [[1, 2], [2, 3], [3, 4], [4, 5], [5, 6], [1]]
        self.assertEqual(plan(chain, [("least", 6, ALL)]), ("plan", [2, 3, 4, 5, 6, 1]))
        self.assertEqual(plan([[step, 9] for step in range(1, 7)], [("most", 1, ALL)]), ("plan", [9] * 6))

    def test_empty_lists(self):
        for count in range(1, 7):
            for places in itertools.product((False, True), repeat=count):
                may = [[] if empty else [1, 2, 3] for empty in places]
                for ties in ([], [("most", 2, tuple(range(count)))], [("least", 1, (count - 1,))]):
                    self.assertEqual(self.check(may, ties), "none" if any(places) else "plan")

    def test_ties_that_cannot_be_kept_together(self):
        for ties in (
            [("most", 1, (0, 1)), ("least", 2, (0, 1))],
            [("most", 2, (0, 1, 2)), ("least", 3, (0, 1, 2))],
            [("most", 5, ALL), ("least", 6, ALL)],
            [("most", 1, (0, 1)), ("most", 1, (1, 2)), ("least", 2, (0, 2))],
            [("most", 1, (0, 5)), ("most", 1, (1, 4)), ("least", 5, ALL)],
            [("least", 2, (0, 1)), ("least", 2, (1, 2)), ("least", 2, (0, 2)), ("most", 2, (0, 1, 2, 3))],
            [("most", 3, (0, 1, 2, 3)), ("most", 1, (3, 4, 5)), ("least", 5, ALL)],
        ):
            for size in (1, 2, 6, 20):
                may = [list(range(TOP - size + 1, TOP + 1)) for step in range(6)]
                for order in (ties, ties[::-1]):
                    self.assertEqual(self.check(may, order), "none")

    def test_ties_that_can(self):
        may = [list(range(1, 21)) for step in range(6)]
        for ties in (
            [("most", 1, (0, 1)), ("most", 1, (2, 3)), ("most", 1, (4, 5)), ("least", 3, ALL)],
            [("most", 1, (0, 5)), ("most", 1, (1, 4)), ("least", 4, ALL)],
            [("least", 6, ALL)] * 12,
            [("most", 3, ALL), ("least", 3, (0, 2, 4)), ("least", 3, (1, 3, 5)), ("least", 2, (0, 1))],
        ):
            self.assertEqual(self.check(may, ties), "plan")

    def test_as_many_badges_as_unlike_hands(self):
        for count in range(1, 7):
            for size in range(8):
                may = [list(range(1, size + 1)) for step in range(count)]
                word = "plan" if size >= count else "none"
                self.assertEqual(self.check(may, [("least", count, tuple(range(count)))]), word)

    def test_all_mays_of_two_steps_with_one_and_two_ties(self):
        lists = subsets([1, TOP])
        ties = [tie for tie in ties_of(2) if tie[1] <= 3]
        for first, second in itertools.product(lists, repeat=2):
            self.check_whole([first, second], [])
            for one, other in itertools.product(ties, repeat=2):
                self.check_whole([list(first), list(second)], [one, other])

    def test_all_mays_of_three_steps_with_one_tie(self):
        ties = [tie for tie in ties_of(3) if tie[1] <= 3]
        for may in itertools.combinations_with_replacement(subsets([1, 2, 3]), 3):
            for tie in ties:
                self.check_whole([list(badges) for badges in may], [tie])

    def test_many_mays_and_ties(self):
        # The seed is written here, so that each run asks the same.
        chance = random.Random(11)
        words = {}
        for number in range(4000):
            count = chance.randint(1, 6)
            badges = sorted(chance.sample(range(1, 50), chance.randint(1, 5)) + [TOP])
            least = 0 if number % 5 == 0 else 1
            may = [sorted(chance.sample(badges, chance.randint(least, min(4, len(badges))))) for step in range(count)]
            ties = [some_tie(chance, count) for place in range(chance.choice((0, 1, 2, 3, 4, 6, 12)))]
            word = self.check_whole(may, ties)
            words[count, word] = words.get((count, word), 0) + 1
        for count in range(1, 7):
            for word in ("plan", "none"):
                self.assertGreater(words[count, word], 50, (count, word))

    def test_twenty_badges_and_twelve_ties(self):
        chance = random.Random(12)
        words = []
        for number in range(600):
            badges = list(range(1, 20)) + [TOP]
            may = [sorted(chance.sample(badges, chance.randint(1, 20))) for step in range(6)]
            ties = [some_tie(chance, 6) for place in range(chance.randint(0, 12))]
            words.append(self.check(may, ties))
        self.assertGreater(words.count("plan"), 100)
        self.assertGreater(words.count("none"), 100)

    def test_somewhat_more_steps_and_ties(self):
        may = [list(range(1, 26)) for step in range(7)]
        self.assertEqual(plan(may, [("most", 1, (0, 6))] * 14)[0], "plan")
        word, paper = plan(may, [("most", 1, (0, 1)), ("least", 2, (0, 1))])
        self.assertEqual(word, "none")
        self.assertIs(shows(may, [("most", 1, (0, 1)), ("least", 2, (0, 1))], paper), True)

    def test_a_told_plan_has_no_paper_and_a_told_paper_no_plan(self):
        told = []
        cases = []
        for may in itertools.product(subsets([1, 2]), repeat=2):
            for ties in ([], [("most", 1, (0, 1))], [("least", 2, (0, 1))]):
                cases.append(([list(badges) for badges in may], ties))
                told.append(plan(cases[-1][0], ties))
        for (may, ties), (word, own) in zip(cases, told):
            for other, thing in told:
                if other == "none" and word == "plan":
                    self.assertIs(shows(may, ties, thing), False)
                if other == "plan" and word == "none":
                    self.assertIs(fits(may, ties, thing), False)


class HeldTest(unittest.TestCase):
    def test_nothing_done(self):
        for may in ([[]], [[1]], [[1, 2], [], [TOP]], [[1, 2]] * 6):
            self.assertEqual(held(may, [None] * len(may)), may)

    def test_all_done(self):
        self.assertEqual(held([[1, 2]], [2]), [[2]])
        self.assertEqual(held([[1, 2], [2, 3], []], [1, 3, 7]), [[1], [3], [7]])
        self.assertEqual(held([[1, 2]] * 6, [1, 2, 1, 2, 1, TOP]), [[1], [2], [1], [2], [1], [TOP]])

    def test_a_hand_that_is_in_its_list_and_one_that_is_not(self):
        self.assertEqual(held([[1, 2], [2, 3]], [2, None]), [[2], [2, 3]])
        self.assertEqual(held([[1, 2], [2, 3]], [9, None]), [[9], [2, 3]])
        self.assertEqual(held([[1, 2], [2, 3]], [None, TOP]), [[1, 2], [TOP]])
        self.assertEqual(held([[], [2, 3]], [4, None]), [[4], [2, 3]])

    def test_every_done(self):
        may = [[1, 2, TOP], [], [2], [1, 3]]
        for done in itertools.product((None, 1, 2, TOP), repeat=4):
            told = held(may, list(done))
            self.assertEqual(len(told), 4)
            for badges, hand, own in zip(may, done, told):
                self.assertEqual(own, badges if hand is None else [hand])

    def test_plans_of_may_held_to_done(self):
        may = [[1, 2], [1, 2], [1, 2]]
        ties = [("least", 2, (0, 1)), ("most", 1, (1, 2))]
        self.assertEqual(plan(held(may, [1, None, None]), ties), ("plan", [1, 2, 2]))
        self.assertEqual(plan(held(may, [9, None, 1]), ties), ("plan", [9, 1, 1]))
        self.assertEqual(plan(held(may, [1, 1, None]), ties)[0], "none")


class OwnTest(unittest.TestCase):
    CASES = (
        ([[1]], []), ([[]], []), ([[1, 2], [2, 3]], [("most", 1, (0, 1))]), ([[1], [1]], [("least", 2, (0, 1))]),
        ([[1, 2], [1, 2], [1, 2]], [("least", 3, (0, 1, 2))]), ([[1, 2]] * 6, [("most", 1, ALL), ("least", 2, ALL)]),
    )

    def test_plan(self):
        for may, ties in self.CASES:
            check_own(self, plan, [list(badges) for badges in may], list(ties))

    def test_fits(self):
        for may, ties in self.CASES:
            for hands in ([], [1], [2, 2], [1, 2], [1] * 6):
                check_own(self, fits, [list(badges) for badges in may], list(ties), list(hands))

    def test_held(self):
        for done in ([None, None, None], [1, None, 3], [1, 2, 3], [None, 5, None]):
            check_own(self, held, [[1, 2], [], [3]], done)

    def test_one_list_at_several_places(self):
        badges = [1, 2]
        check_own(self, held, [badges, badges, badges], [None, None, 1])
        check_own(self, plan, [[1, 2]] * 3, [("least", 3, (0, 1, 2))])
        check_own(self, plan, [[1, 2]] * 3, [])

    def test_held_lists_are_apart_from_may(self):
        may = [[1, 2], [2]]
        told = held(may, [None, None])
        told[0].append(SPOILT)
        told.append(SPOILT)
        self.assertEqual(may, [[1, 2], [2]])
        self.assertEqual(held(may, [None, None]), [[1, 2], [2]])


if __name__ == "__main__":
    unittest.main()
