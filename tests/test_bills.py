import itertools
import random
import unittest
from copy import deepcopy

from deskround.bills import bears, may_of, minutes_of, sums
from deskround.papers import shows
from deskround.plans import plan
from deskround.quick import quick
from helper import (
    MANY_FIGURES, OTHER_THINGS, TOP, bears_by_words, check_own, fewest_minutes, may_by_words, minutes_by_words,
    neighbours, patterns, some_bill, some_tie, sums_by_words,
)

FAR = 10 ** 30


def billed(may, minutes=1):
    """A bill of this may, each pair with so many minutes."""
    return [[(badge, minutes) for badge in badges] for badges in may]


class MayTest(unittest.TestCase):
    def test_bills_of_one_to_six_steps(self):
        self.assertEqual(may_of([[(7, 3)]]), [[7]])
        self.assertEqual(may_of([[(1, 3), (2, 0)], [(2, TOP), (TOP, 5)]]), [[1, 2], [2, TOP]])
        for count in range(1, 7):
            bill = [[(badge, badge * step) for badge in range(1, step + 3)] for step in range(count)]
            self.assertEqual(may_of(bill), [list(range(1, step + 3)) for step in range(count)])

    def test_empty_lists(self):
        self.assertEqual(may_of([[]]), [[]])
        self.assertEqual(may_of([[], [(1, 1)], []]), [[], [1], []])
        for count in range(1, 7):
            self.assertEqual(may_of([[] for step in range(count)]), [[] for step in range(count)])

    def test_many_bills(self):
        chance = random.Random(13)
        for number in range(300):
            bill = some_bill(chance, chance.randint(1, 6), 20)
            self.assertEqual(may_of(bill), may_by_words(bill))


class MinutesTest(unittest.TestCase):
    def test_hands(self):
        bill = [[(1, 0), (2, 1)], [(1, TOP), (3, 4)], [(2, 5)]]
        self.assertEqual(minutes_of(bill, [1, 3, 2]), 9)
        self.assertEqual(minutes_of(bill, [2, 3, 2]), 10)
        self.assertEqual(minutes_of(bill, [1, 1, 2]), TOP + 5)
        self.assertEqual(minutes_of(bill, [2, 1, 2]), TOP + 6)

    def test_noughts_ones_and_the_most(self):
        for count in range(1, 7):
            for minutes in (0, 1, TOP):
                bill = [[(step + 1, minutes), (TOP, 7)] for step in range(count)]
                self.assertEqual(minutes_of(bill, [step + 1 for step in range(count)]), minutes * count)
                self.assertEqual(minutes_of(bill, [TOP] * count), 7 * count)

    def test_a_hand_has_its_own_minutes_at_each_step(self):
        bill = [[(1, 10 ** step), (2, 0)] for step in range(6)]
        for hands in itertools.product((1, 2), repeat=6):
            expected = sum(10 ** step for step in range(6) if hands[step] == 1)
            self.assertEqual(minutes_of(bill, list(hands)), expected)

    def test_many_hands(self):
        chance = random.Random(14)
        for number in range(500):
            bill = some_bill(chance, chance.randint(1, 6), 20)
            if [] not in bill:
                hands = [chance.choice(pairs)[0] for pairs in bill]
                self.assertEqual(minutes_of(bill, hands), minutes_by_words(bill, hands))


class SumsTest(unittest.TestCase):
    BILL = [[(1, 1), (2, 2), (3, 3)], [(2, 20), (3, 30), (4, 40)], [(1, 100), (3, 300), (TOP, TOP)], []]

    def test_the_pattern_of_no_steps(self):
        for bill in ([[]], [[(1, 1)]], self.BILL):
            self.assertEqual(sums([], bill), [])

    def test_shorter_patterns(self):
        one, other, third, last = self.BILL
        self.assertEqual(sums([0], self.BILL), [one])
        self.assertEqual(sums([0, 0], self.BILL), [[(2, 22), (3, 33)]])
        self.assertEqual(sums([0, 1], self.BILL), [one, other])
        self.assertEqual(sums([0, 1, 0], self.BILL), [[(1, 101), (3, 303)], other])
        self.assertEqual(sums([0, 1, 1], self.BILL), [one, [(3, 330)]])
        self.assertEqual(sums([0, 0, 1], self.BILL), [[(2, 22), (3, 33)], third])
        self.assertEqual(sums([0, 0, 0], self.BILL), [[(3, 333)]])

    def test_patterns_of_all_steps(self):
        one, other, third, last = self.BILL
        self.assertEqual(sums([0, 1, 2, 3], self.BILL), [one, other, third, []])
        self.assertEqual(sums([0, 1, 2, 0], self.BILL), [[], other, third])
        self.assertEqual(sums([0], [[(TOP, 0)]]), [[(TOP, 0)]])
        self.assertEqual(sums([0], [[]]), [[]])

    def test_blocks_of_several_steps(self):
        bill = [[(1, 10 ** step), (2, 2), (3, TOP)] for step in range(6)]
        self.assertEqual(sums([0] * 6, bill), [[(1, 111111), (2, 12), (3, 6 * TOP)]])
        self.assertEqual(
            sums([0, 1, 0, 1, 0, 1], bill),
            [[(1, 10101), (2, 6), (3, 3 * TOP)], [(1, 101010), (2, 6), (3, 3 * TOP)]],
        )
        self.assertEqual(
            sums([0, 1, 2, 2, 1, 0], bill),
            [[(1, 100001), (2, 4), (3, 2 * TOP)], [(1, 10010), (2, 4), (3, 2 * TOP)],
             [(1, 1100), (2, 4), (3, 2 * TOP)]],
        )

    def test_blocks_with_no_badge_in_common(self):
        self.assertEqual(sums([0, 0], [[(1, 5), (2, 5)], [(3, 5), (4, 5)]]), [[]])
        self.assertEqual(sums([0, 1, 0, 1], [[(1, 0)], [(2, 3)], [(3, 0)], [(2, 4), (4, 4)]]), [[], [(2, 7)]])
        self.assertEqual(sums([0, 0, 0], [[(1, 1), (2, 1)], [(2, 1), (3, 1)], [(1, 1), (3, 1)]]), [[]])

    def test_every_pattern(self):
        chance = random.Random(15)
        for count in range(1, 7):
            for number in range(5):
                bill = some_bill(chance, count, 20)
                for size in range(count + 1):
                    for pattern in patterns(size):
                        self.assertEqual(sums(list(pattern), bill), sums_by_words(pattern, bill))


class BearsTest(unittest.TestCase):
    def check(self, bill, ties, bound, paper, answer):
        with self.subTest(bill=bill, ties=ties, bound=bound, paper=paper):
            self.assertIs(bears(bill, ties, bound, paper), answer)
            self.assertIs(bears_by_words(bill, ties, bound, paper), answer)

    def check_most(self, bill, ties, most, paper):
        """The paper bears the bounds up to this one, and none above it."""
        for bound in (most, most - 1, 0, -1, most // 2, -most, -TOP, -FAR):
            self.check(bill, ties, bound, paper, bound <= most)
        for bound in (most + 1, most + 2, abs(most) + TOP, abs(most) + FAR):
            self.check(bill, ties, bound, paper, False)

    def check_none(self, bill, ties, paper):
        for bound in (0, 1, -1, TOP, -TOP, FAR, -FAR, -10 ** 62):
            self.check(bill, ties, bound, paper, False)

    def check_all(self, bill, ties, paper):
        for bound in (0, 1, -1, TOP, -TOP, FAR, -FAR):
            self.check(bill, ties, bound, paper, True)

    def test_dear_for_the_pattern_of_no_steps(self):
        for bill in ([[(1, 5)]], [[]], [[(1, 0), (2, 3)]] * 6):
            self.check_most(bill, [], 0, ("dear", [], []))
            self.check_most(bill, [], -3, ("dear", [], [(1, 3)]))
            self.check_most(bill, [], -8, ("dear", [], [(1, 3), (2, 0), (7, 4), (TOP, 1)]))
            for prices in ([0], [1], [-1], [0, 0], [False], [None], [[]], None, 0, "", (), [()]):
                self.check_none(bill, [], ("dear", prices, []))

    def test_dear_for_one_step(self):
        bill = [[(1, 5), (2, 7), (TOP, 6)]]
        self.check_most(bill, [], 5, ("split", [("dear", [5], [])]))
        self.check_most(bill, [], 0, ("split", [("dear", [0], [])]))
        self.check_most(bill, [], -9, ("split", [("dear", [-9], [])]))
        self.check_none(bill, [], ("split", [("dear", [6], [])]))
        self.check_most(bill, [], 5, ("split", [("dear", [6], [(1, 1)])]))
        self.check_most(bill, [], 4, ("split", [("dear", [6], [(1, 2)])]))
        self.check_none(bill, [], ("split", [("dear", [7], [(1, 1), (TOP, 1)])]))
        self.check_most(bill, [], 4, ("split", [("dear", [7], [(1, 2), (TOP, 1)])]))
        self.check_none(bill, [], ("split", [("dear", [7], [(1, 2)])]))
        self.check_none(bill, [], ("split", [("dear", [8], [(1, 3), (TOP, 2)])]))
        self.check_most(bill, [], 2, ("split", [("dear", [8], [(1, 3), (2, 1), (TOP, 2)])]))

    def test_dear_for_several_blocks(self):
        # Both steps want the first badge, and one of them pays for the second one.
        bill = [[(1, 2), (2, 6)], [(1, 3), (2, 9)]]
        ties = [("least", 2, (0, 1))]
        for dear, most in (
            (("dear", [6, 7], [(1, 4)]), 9), (("dear", [5, 6], [(1, 3)]), 8), (("dear", [2, 3], []), 5),
            (("dear", [6, 9], [(1, 6)]), 9), (("dear", [6, 9], [(1, 7)]), 8), (("dear", [6, 9], [(1, 7), (2, 1)]), 7),
            (("dear", [-6, 3], []), -3), (("dear", [2, -TOP], []), 2 - TOP),
        ):
            self.check_most(bill, ties, most, ("split", [("split", [("tie", 0), dear])]))
        for dear in (
            ("dear", [7, 7], [(1, 4)]), ("dear", [6, 8], [(1, 4)]), ("dear", [6, 7], [(1, 3)]),
            ("dear", [6, 7], [(2, 4)]), ("dear", [6, 7], []), ("dear", [7, 6], [(1, 4)]), ("dear", [6, 10], [(1, 7)]),
        ):
            self.check_none(bill, ties, ("split", [("split", [("tie", 0), dear])]))

    def test_dear_for_a_block_of_several_steps(self):
        bill = [[(1, 2), (2, 6)], [(1, 3), (2, 9)], [(2, 1)]]
        ties = [("most", 1, (0, 1)), ("least", 2, (0, 2))]
        self.check_most(bill, ties, 5, ("split", [("split", [("dear", [5], []), ("tie", 0)])]))
        self.check_none(bill, ties, ("split", [("split", [("dear", [6], []), ("tie", 0)])]))
        whole = ("split", [("split", [("split", [("tie", 1), ("dear", [5, 1], [])]), ("tie", 0)])])
        self.check_most(bill, ties, 6, whole)
        whole = ("split", [("split", [("split", [("tie", 1), ("dear", [15, 1], [(1, 10)])]), ("tie", 0)])])
        self.check_most(bill, ties, 6, whole)
        for prices in ([16, 1], [15, 2], [16, 0]):
            whole = ("split", [("split", [("split", [("tie", 1), ("dear", prices, [(1, 10)])]), ("tie", 0)])])
            self.check_none(bill, ties, whole)

    def test_each_paper_of_a_split_bears_the_bound(self):
        bill = [[(1, 2), (2, 6)], [(1, 3), (2, 9)]]
        for one, other in itertools.product((3, 4, 5), (4, 5, 6, 7, 8, 9)):
            alike = ("dear", [one], [])
            apart = ("dear", [6, other - 2], [(1, 4)])
            self.check_most(bill, [], min(one, other), ("split", [("split", [alike, apart])]))
        self.check_none(bill, [], ("split", [("split", [("dear", [6], []), ("dear", [6, 7], [(1, 4)])])]))
        self.check_none(bill, [], ("split", [("split", [("dear", [5], []), ("dear", [6, 8], [(1, 4)])])]))

    def test_minutes_of_nought_and_the_most(self):
        self.check_most([[(1, 0)]], [], 0, ("split", [("dear", [0], [])]))
        self.check_none([[(1, 0)]], [], ("split", [("dear", [1], [])]))
        bill = [[(1, TOP)] for step in range(6)]
        paper = ("dear", [6 * TOP], [])
        for step in range(5):
            paper = ("split", [paper, ("short", [0, 1])])
        paper = ("split", [paper])
        self.check_most(bill, [], 6 * TOP, paper)
        self.check_none(bill, [], swapped(paper, 6 * TOP, 6 * TOP + 1))

    def test_a_block_with_no_badge_has_any_price(self):
        self.check_most([[]], [], FAR, ("split", [("dear", [FAR], [])]))
        self.check_most([[]], [], FAR - 4, ("split", [("dear", [FAR], [(1, 4)])]))
        bill = [[(1, 3)], [(2, 4)]]
        self.check_most(bill, [], 7, ("split", [("split", [("dear", [TOP], []), ("dear", [3, 4], [])])]))
        self.check_none([[(1, 3)], []], [], ("split", [("split", [("dear", [9], []), ("dear", [4, 9], [])])]))

    def test_prices_that_are_none(self):
        bill = [[(1, 1)], [(2, 1)]]
        ties = [("least", 2, (0, 1))]
        self.check_most(bill, ties, 2, ("split", [("split", [("tie", 0), ("dear", [1, 1], [])])]))
        self.check_most(bill, ties, 0, ("split", [("split", [("tie", 0), ("dear", [1, -1], [])])]))
        self.check_most(bill, ties, 1 - FAR, ("split", [("split", [("tie", 0), ("dear", [-FAR, 1], [])])]))
        for prices in (
            [], [1], [2], [1, 1, 1], [1, 1, 0], [1, 1, -1], [2, 1], [1, 2], [2, 0], [True, 1], [1, True], [True, True],
            [False, 1], [1, False], [None, 1], [1, None], ["1", 1], [1, "1"], [[1], 1], [(1,), 1], [(1, 1)], [[1, 1]],
            (1, 1), None, 1, 2, "11", "", True, [1, MANY_FIGURES], [MANY_FIGURES, MANY_FIGURES],
        ):
            self.check_none(bill, ties, ("split", [("split", [("tie", 0), ("dear", prices, [])])]))

    def test_dues_that_are_none(self):
        bill = [[(1, 1), (2, 1), (3, 0)]]
        for dues, most in (
            ([], None), ([(3, 1)], 0), ([(3, 2)], -1), ([(1, 0), (3, 1)], 0), ([(1, 0), (2, 0), (3, 1)], 0),
            ([(3, 1), (4, 0)], 0), ([(3, 1), (9, 5)], -5), ([(3, 1), (TOP, 0)], 0), ([(3, 1), (TOP, 2)], -2),
            ([(1, 1), (2, 1), (3, 1)], -2), ([(3, FAR)], 1 - FAR), ([(1, 1)], None), ([(2, 1)], None),
            ([(3, 0)], None), ([(4, 1)], None), ([(3, -1)], None), ([(3, 1), (4, -1)], None),
            ([(1, -1), (3, 1)], None), ([(1, 0), (3, -1)], None), ([(3, 1), (1, 0)], None), ([(3, 1), (2, 0)], None),
            ([(3, 1), (3, 0)], None), ([(3, 0), (3, 1)], None), ([(3, 1), (3, 1)], None),
            ([(1, 0), (1, 0), (3, 1)], None), ([(0, 0), (3, 1)], None), ([(-1, 0), (3, 1)], None),
            ([(3, 1), (TOP + 1, 0)], None), ([(3, 1), (MANY_FIGURES, 0)], None), ([(True, 0), (3, 1)], None),
            ([(False, 0), (3, 1)], None), ([(None, 0), (3, 1)], None), ([("a", 0), (3, 1)], None),
            ([(3, 1), ("a", 0)], None), ([(3, 1), (None, 0)], None), ([(3, 1), ([4], 0)], None),
            ([(3, True)], None), ([(2, False), (3, 1)], None), ([(3, 1), (4, False)], None),
            ([(3, 1), (4, None)], None),
            ([(3, 1), (4, "0")], None), ([(3, 1), (4, [0])], None), ([(3, 1), (4, (0,))], None), ([(3, "1")], None),
            ([[3, 1]], None), ([(3, 1), [4, 0]], None), ([(3, 1, 0)], None), ([(3, 1), (4, 0, 0)], None),
            ([(3,)], None),
            ([(3, 1), (4,)], None), ([(3, 1), ()], None), ([()], None), ([[]], None), ([3, 1], None), ([3], None),
            ([None], None), ([True], None), (["31"], None), ([[(3, 1)]], None), ([((3, 1),)], None), ((), None),
            (((3, 1),), None), ((3, 1), None), (None, None), (0, None), (3, None), ("", None), ("31", None),
            (True, None), (False, None), ([(3, MANY_FIGURES), (3, 1)], None), ([(3, -MANY_FIGURES)], None),
        ):
            paper = ("split", [("dear", [1], dues)])
            if most is None:
                self.check_none(bill, [], paper)
            else:
                self.check_most(bill, [], most, paper)

    def test_dues_and_prices_of_many_figures(self):
        bill = [[(1, 1)]]
        paper = ("split", [("dear", [MANY_FIGURES], [(1, MANY_FIGURES - 1)])])
        for bound in (-1, 0, 1, 2, TOP):
            self.assertIs(bears(bill, [], bound, paper), bound <= 1)
        self.assertIs(bears(bill, [], 0, ("split", [("dear", [MANY_FIGURES], [(1, MANY_FIGURES - 2)])])), False)
        self.assertIs(bears(bill, [], -TOP, ("split", [("dear", [-MANY_FIGURES], [])])), False)
        self.assertIs(bears(bill, [], -MANY_FIGURES, ("split", [("dear", [-MANY_FIGURES], [])])), True)

    def test_dear_of_other_lengths_and_other_words(self):
        bill = [[(1, 4)]]
        for bound in (-FAR, -1, 0, 4):
            self.check(bill, [], bound, ("split", [("dear", [4], [])]), True)
            for paper in (
                ("dear",), ("dear", [4]), ("dear", [4], [], []), ("dear", [4], [], None), ("dear", ([4], [])),
                ("dear", [4], [], [(1, 0)]), ["dear", [4], []], ["dear", [4]], ([4], [], "dear"), ("dear", [], [4]),
                ("Dear", [4], []), ("dear ", [4], []), ("", [4], []), ("tie", [4], []), ("short", [4], []),
                ("split", [4], []), (None, [4], []), (0, [4], []), (["dear"], [4], []), (("dear", [4], []),),
                [("dear", [4], [])], (), [], None, True, 4, "dear", "dear 4 /",
            ):
                self.check(bill, [], bound, ("split", [paper]), False)

    def test_ties_and_short_pools_bear_every_bound(self):
        self.check_all([[(1, 1)]], [("least", 2, (0,))], ("tie", 0))
        self.check_all([[(1, 1)]], [("least", 2, (0,))], ("split", [("tie", 0)]))
        self.check_all([[]], [], ("split", [("short", [0])]))
        self.check_all([[(1, 1)], []], [], ("split", [("split", [("short", [0]), ("short", [1])])]))
        self.check_all([[(1, 1)], []], [], ("split", [("split", [("short", [0]), ("short", [0, 1])])]))
        ties = [("most", 1, (0, 1)), ("least", 2, (0, 1))]
        self.check_all(billed([[1, 2]] * 3), ties, ("split", [("split", [("tie", 1), ("tie", 0)])]))
        self.check_none(billed([[1, 2]] * 3), ties, ("split", [("split", [("tie", 0), ("tie", 1)])]))
        self.check_none(billed([[1, 2]] * 3), ties, ("split", [("tie", 0)]))

    def test_pools_have_the_badges_alone(self):
        # Unlike minutes of the same badges do not make more of them.
        bill = [[(1, 2)], [(1, 3)]]
        ties = [("least", 2, (0, 1))]
        self.check_all(bill, ties, ("split", [("split", [("tie", 0), ("short", [0, 1])])]))
        self.check_none([[(1, 2)], [(2, 2)]], ties, ("split", [("split", [("tie", 0), ("short", [0, 1])])]))

    def test_places_of_ties(self):
        bill = [[(1, 1)], [(1, 1)]]
        for count in range(4):
            ties = [("least", 3, (0, 1))] * count
            for place in list(range(-5, 6)) + [True, False, None, "0", [0], (0,), MANY_FIGURES, -MANY_FIGURES]:
                answer = type(place) is int and 0 <= place < count
                for bound in (0, 9, -9):
                    self.check(bill, ties, bound, ("tie", place), answer)

    def test_lists_of_blocks(self):
        bill = [[(1, 4)], [(1, 4)], [(2, 4), (3, 4)]]
        ties = [("least", 2, (0, 1))]
        self.check_all(bill, ties, ("split", [("split", [("tie", 0), ("short", [0, 1])])]))
        for blocks in (
            [1, 0], [0, 0], [1, 1], [0, 0, 1], [0, 1, 1], [0, 1, 2], [-1, 0, 1], [-2, -1], [-1, 0], [0, 2], [0], [1],
            [2], [], (0, 1), [False, True], [False, 1], [0, True], [0, None], ["0", "1"], [[0], [1]], [(0, 1)], None, 0,
            "01", "", (), True, [0, "1"], [0, MANY_FIGURES],
        ):
            self.check_none(bill, ties, ("split", [("split", [("tie", 0), ("short", blocks)])]))

    def test_splits_with_other_papers(self):
        bill = [[(1, 2), (2, 6)], [(1, 3), (2, 9)], [(3, 1)]]
        alike = ("split", [("short", [0]), ("dear", [5, 1], [])])
        apart = ("split", [("short", [0]), ("short", [1]), ("dear", [6, 7, 1], [(1, 4)])])
        self.check_most(bill, [], 6, ("split", [("split", [alike, apart])]))
        for papers in (
            [apart, alike], [alike], [apart], [], [alike, apart, apart], [alike, alike, apart], (alike, apart), None,
            [alike, None], [None, apart], [list(alike), apart], [alike, list(apart)], [[alike], apart], "ab", 2,
        ):
            self.check_none(bill, [], ("split", [("split", papers)]))
        for last in (
            [("short", [1]), ("short", [0]), ("dear", [6, 7, 1], [(1, 4)])],
            [("short", [0]), ("dear", [6, 7, 1], [(1, 4)])],
            [("dear", [6, 7, 1], [(1, 4)]), ("short", [0]), ("short", [1])],
            [("short", [0]), ("short", [1]), ("short", [2]), ("dear", [6, 7, 1], [(1, 4)])],
        ):
            self.check_none(bill, [], ("split", [("split", [alike, ("split", last)])]))

    def test_no_split_of_a_pattern_that_has_all_steps(self):
        for count in range(1, 7):
            # The tie is broken by every pattern, so only the number of steps speaks against the paper.
            bill = billed([[1, 2]] * count)
            for depth in range(9):
                paper = ("tie", 0)
                for step in range(depth, 0, -1):
                    paper = ("split", [("tie", 0)] * (step - 1) + [paper])
                for bound in (0, 1, -1):
                    self.check(bill, [("least", 2, (0,))], bound, paper, depth <= count)
        self.check_none([[(1, 1)]], [], ("split", [("split", [("dear", [1], []), ("dear", [1, 1], [])])]))
        self.check_none([[(1, 1)]], [], ("split", [("split", [])]))

    def test_things_of_other_kinds(self):
        for bill, ties in (
            ([[(1, 1)]], []), ([[(1, 0), (2, TOP)], [(2, 4)]], []), ([[]], []),
            ([[(1, 3)], [(1, 4)]], [("least", 2, (0, 1)), ("least", 3, (0, 1))]), (billed([[1, 2, 3]] * 6), []),
        ):
            for bound in (-FAR, -1, 0, 1, TOP):
                for number, thing in enumerate(OTHER_THINGS):
                    for paper in (thing, ("split", [thing]), ("dear", thing, []), ("dear", [], thing),
                                  ("dear", [], [thing]), ("split", [("dear", [thing], [])]), (thing, [], []),
                                  ("split", [("dear", [0], [(1, thing)])]), ("split", [("dear", [0], [(thing, 1)])])):
                        answer = bears_by_words(bill, ties, bound, paper)
                        if bears(bill, ties, bound, paper) is not answer:
                            self.fail((bill, ties, bound, number))

    def test_neighbours_of_papers_that_bear(self):
        for bill, ties in (
            ([[(1, 0)]], []),
            ([[(1, 1)]], []),
            ([[(1, 5), (2, 4)]], []),
            ([[(1, 2), (2, 6)], [(1, 3), (2, 9)]], [("least", 2, (0, 1))]),
            ([[(1, 2), (2, 6)], [(1, 3), (2, 9)]], []),
            ([[(1, 1)], [(2, 0)], [(1, 2), (3, 1)]], [("least", 3, (0, 1, 2))]),
            ([[(1, TOP), (2, TOP)], [(2, TOP), (3, 0)]], [("most", 1, (0, 1))]),
        ):
            word, hands, total, paper = quick(bill, ties)
            self.check_most(bill, ties, total, paper)
            answers = []
            for other in neighbours(paper):
                for bound in (total, 0, -2):
                    answers.append(bears(bill, ties, bound, other))
                    if answers[-1] is not bears_by_words(bill, ties, bound, other):
                        self.fail((bill, ties, bound, other))
            self.assertGreater(answers.count(False), 100)

    def test_papers_that_show_bear_every_bound(self):
        chance = random.Random(16)
        found = 0
        for number in range(600):
            count = chance.randint(1, 5)
            bill = some_bill(chance, count, 4)
            ties = [some_tie(chance, count) for place in range(chance.randint(0, 6))]
            word, paper = plan(may_of(bill), ties)
            if word == "none":
                found += 1
                self.check_all(bill, ties, paper)
        self.assertGreater(found, 100)

    def test_a_paper_with_dear_in_it_never_shows(self):
        for bill, paper in (
            ([[(1, 1)]], ("dear", [], [])), ([[]], ("dear", [], [])), ([[]], ("split", [("dear", [5], [])])),
            ([[(1, 3)], []], ("split", [("split", [("dear", [3], []), ("short", [1])])])),
        ):
            self.assertIs(shows(may_of(bill), [], paper), False)

    def test_no_paper_bears_more_than_a_plan_has(self):
        # Papers that are told for one bill and ties are asked of all the others.
        cases = []
        for minutes in itertools.product((0, 1, 3), repeat=4):
            bill = [[(1, minutes[0]), (2, minutes[1])], [(1, minutes[2]), (2, minutes[3])]]
            for ties in ([], [("most", 1, (0, 1))], [("least", 2, (0, 1))]):
                cases.append((bill, ties))
        papers = {}
        for bill, ties in cases:
            paper = quick(bill, ties)[3]
            papers[repr(paper)] = paper
        borne = 0
        for bill, ties in cases:
            fewest = fewest_minutes(bill, ties)
            for paper in papers.values():
                self.assertIs(bears(bill, ties, fewest + 1, paper), False)
                borne += bears(bill, ties, fewest, paper)
        self.assertGreater(borne, len(cases))


def swapped(thing, old, new):
    """The thing with new wherever old stands in it."""
    if thing == old and type(thing) is type(old):
        return new
    if isinstance(thing, (list, tuple)):
        return type(thing)([swapped(part, old, new) for part in thing])
    return thing


class OwnTest(unittest.TestCase):
    BILLS = ([[(1, 5)]], [[]], [[(1, 2), (2, 6)], [(1, 3), (2, 9)], [(2, 1), (3, 1)]], [[(1, 1)], [], [(1, 1)]])

    def test_may_of(self):
        for bill in self.BILLS:
            check_own(self, may_of, [list(pairs) for pairs in bill])

    def test_minutes_of(self):
        check_own(self, minutes_of, [[(1, 5)]], [1])
        check_own(self, minutes_of, [[(1, 2), (2, 6)], [(1, 3), (2, 9)]], [2, 1])

    def test_sums(self):
        for bill in self.BILLS:
            for size in range(len(bill) + 1):
                for pattern in patterns(size):
                    check_own(self, sums, list(pattern), [list(pairs) for pairs in bill])

    def test_bears(self):
        for paper in (
            ("dear", [], []), ("dear", [], [(1, 0)]), ("split", [("dear", [5], [(1, 0), (2, 4)])]), ("tie", 0),
            ("split", [("split", [("dear", [5], []), ("dear", [6, 7], [(1, 4)])])]), [[1], ([2],)], None,
            ("split", [("short", [0])]), ("split", [("dear", [5], [[1, 0]])]),
        ):
            for bill in self.BILLS:
                for bound in (0, 5, -5):
                    check_own(self, bears, [list(pairs) for pairs in bill], [], bound, deepcopy(paper))

    def test_one_list_at_several_places(self):
        pairs = [(1, 2), (2, 6)]
        check_own(self, may_of, [pairs, pairs])
        pairs = [(1, 2), (2, 6)]
        check_own(self, sums, [0, 1], [pairs, pairs])
        prices = [0]
        paper = ("split", [("dear", prices, [])])
        self.assertIs(bears([[(1, 1)]], [], 0, paper), True)
        self.assertEqual(prices, [0])


if __name__ == "__main__":
    unittest.main()
