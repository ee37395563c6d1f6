import itertools
import random
import unittest

from deskround.papers import pools_of, shows
from deskround.plans import plan
from helper import (
    MANY_FIGURES, OTHER_THINGS, TOP, check_own, has_plan_by_words, neighbours, patterns, pools_by_words, shows_by_words,
    subsets,
)


class PoolsTest(unittest.TestCase):
    def test_the_pattern_of_no_steps(self):
        for may in ([[]], [[1]], [[1, 2], [2, 3], []]):
            self.assertEqual(pools_of([], may), [])

    def test_shorter_patterns(self):
        may = [[1, 2, 3], [2, 3, 4], [1, 3, TOP], []]
        self.assertEqual(pools_of([0], may), [[1, 2, 3]])
        self.assertEqual(pools_of([0, 0], may), [[2, 3]])
        self.assertEqual(pools_of([0, 1], may), [[1, 2, 3], [2, 3, 4]])
        self.assertEqual(pools_of([0, 1, 0], may), [[1, 3], [2, 3, 4]])
        self.assertEqual(pools_of([0, 1, 1], may), [[1, 2, 3], [3]])
        self.assertEqual(pools_of([0, 0, 0], may), [[3]])

    def test_patterns_of_all_steps(self):
        may = [[1, 2, 3], [2, 3, 4], [1, 3, TOP], []]
        self.assertEqual(pools_of([0, 1, 2, 3], may), [[1, 2, 3], [2, 3, 4], [1, 3, TOP], []])
        self.assertEqual(pools_of([0, 1, 2, 0], may), [[], [2, 3, 4], [1, 3, TOP]])
        self.assertEqual(pools_of([0], [[]]), [[]])
        self.assertEqual(pools_of([0], [[TOP]]), [[TOP]])

    def test_blocks_with_no_badge_in_common(self):
        self.assertEqual(pools_of([0, 0], [[1, 2], [3, 4]]), [[]])
        self.assertEqual(pools_of([0, 1, 0, 1], [[1], [2], [3], [2, 4]]), [[], [2]])
        self.assertEqual(pools_of([0, 0, 0], [[1, 2], [2, 3], [1, 3]]), [[]])

    def test_every_pattern(self):
        chance = random.Random(9)
        badges = list(range(2, 20)) + [TOP - 1, TOP]
        for count in range(1, 7):
            for number in range(4):
                may = [sorted(chance.sample(badges, chance.choice((0, 5, 15, 20)))) for step in range(count)]
                for size in range(count + 1):
                    for pattern in patterns(size):
                        self.assertEqual(pools_of(list(pattern), may), pools_by_words(pattern, may))


class ShowsTest(unittest.TestCase):
    def check(self, may, ties, paper, answer):
        with self.subTest(may=may, ties=ties, paper=paper):
            self.assertIs(shows(may, ties, paper), answer)
            self.assertIs(shows_by_words(may, ties, paper), answer)

    def test_ties_that_are_broken_at_once(self):
        may = [[1, 2], [1, 2]]
        ties = [("most", 1, (0, 1)), ("least", 3, (0, 1)), ("least", 2, (0, 1)), ("least", 2, (1,))]
        for place, answer in enumerate((False, True, False, True)):
            self.check(may, ties, ("tie", place), answer)
            self.check(may, ties, ("split", [("tie", place)]), answer)

    def test_places_that_are_none(self):
        # Each tie is broken, so that a place counted from the end or a truth would find one.
        may = [[1], [1]]
        for count in range(4):
            ties = [("least", 3, (0, 1))] * count
            for place in range(-5, 6):
                self.check(may, ties, ("tie", place), 0 <= place < count)
            for place in (True, False, None, "0", "1", [0], (0,), [], -MANY_FIGURES, MANY_FIGURES, TOP):
                self.check(may, ties, ("tie", place), False)

    def test_ties_that_are_broken_later(self):
        may = [[1, 2], [1, 2], [1, 2]]
        ties = [("most", 1, (0, 1)), ("least", 2, (0, 1))]
        self.check(may, ties, ("split", [("split", [("tie", 1), ("tie", 0)])]), True)
        self.check(may, ties, ("split", [("split", [("tie", 0), ("tie", 1)])]), False)
        self.check(may, ties, ("split", [("split", [("tie", 1), ("tie", 1)])]), False)
        self.check(may, ties, ("split", [("split", [("tie", 0), ("tie", 0)])]), False)
        self.check(may, ties, ("split", [("tie", 0)]), False)
        self.check(may, ties, ("tie", 1), False)

    def test_pools_that_are_short(self):
        self.check([[]], [], ("split", [("short", [0])]), True)
        self.check([[1]], [], ("split", [("short", [0])]), False)
        self.check([[1], []], [], ("split", [("split", [("short", [0]), ("short", [1])])]), True)
        self.check([[1], []], [], ("split", [("split", [("short", [0]), ("short", [0, 1])])]), True)
        self.check([[1], []], [], ("split", [("split", [("short", [0]), ("short", [0])])]), False)
        self.check([[1, 2], []], [], ("split", [("split", [("short", [0]), ("short", [0, 1])])]), False)
        self.check([[], [1]], [], ("split", [("short", [0])]), True)
        self.check([[1], [2]], [("most", 1, (0, 1))], ("split", [("split", [("short", [0]), ("tie", 0)])]), True)
        self.check([[1], [1]], [("most", 1, (0, 1))], ("split", [("split", [("short", [0]), ("tie", 0)])]), False)

    def test_lists_of_blocks(self):
        may = [[1], [1], [2, 3]]
        ties = [("least", 2, (0, 1))]
        for blocks, answer in (
            ([0, 1], True), ([1, 0], False), ([0, 0], False), ([1, 1], False), ([0, 0, 1], False), ([0, 1, 1], False),
            ([0, 1, 2], False), ([0, 1, 2, 3], False), ([-1, 0, 1], False), ([-2, -1], False), ([-1, 0], False),
            ([0, 2], False), ([0, MANY_FIGURES], False), ([0], False), ([1], False), ([2], False), ([], False),
            ((0, 1), False), ([False, True], False), ([False, 1], False), ([0, True], False), ([0, None], False),
            (["0", "1"], False), ([[0], [1]], False), ([[0, 1]], False), ([(0, 1)], False), (None, False), (0, False),
            (1, False), ("01", False), ("", False), ((), False), (True, False), ([0, "1"], False),
            ([None, None], False),
        ):
            self.check(may, ties, ("split", [("split", [("tie", 0), ("short", blocks)])]), answer)

    def test_an_empty_list_of_blocks_never_shows(self):
        for may in ([[]], [[], []], [[1]]):
            self.check(may, [], ("short", []), False)
            self.check(may, [], ("split", [("short", [])]), False)
        self.check([[], []], [], ("split", [("split", [("short", []), ("short", [])])]), False)

    def test_short_counts_only_the_blocks_of_the_pattern(self):
        may = [[1], [1], [1]]
        self.check(may, [("least", 2, (0, 1))], ("short", [0]), False)
        self.check([[]], [], ("short", [0]), False)
        self.check([[], []], [], ("split", [("split", [("short", [0]), ("short", [1])])]), True)
        self.check([[1, 2], []], [], ("split", [("split", [("short", [1]), ("short", [1])])]), False)

    def test_as_many_badges_as_blocks_are_not_short(self):
        for count in range(1, 7):
            ties = [("least", count, tuple(range(count)))]
            for size in range(count + 2):
                may = [list(range(1, size + 1)) for step in range(count)]
                paper = ("short", list(range(count)))
                for step in range(count, 0, -1):
                    paper = ("split", [("tie", 0)] * (step - 1) + [paper])
                self.check(may, ties, paper, size < count)

    def test_splits_with_other_papers(self):
        may = [[1], [2], [3]]
        ties = [("most", 2, (0, 1, 2)), ("least", 2, (0, 1)), ("most", 1, (0, 2)), ("most", 1, (1, 2))]
        last = [("tie", 3), ("tie", 2), ("tie", 0)]
        self.check(may, ties, ("split", [("split", [("tie", 1), ("split", last)])]), True)
        for other in itertools.permutations(last):
            paper = ("split", [("split", [("tie", 1), ("split", list(other))])])
            self.check(may, ties, paper, list(other) == last)
        for place in range(3):
            fewer = last[:place] + last[place + 1:]
            self.check(may, ties, ("split", [("split", [("tie", 1), ("split", fewer)])]), False)
            for extra in (last[place], last[0], last[-1], None):
                more = last[:place] + [extra] + last[place:]
                self.check(may, ties, ("split", [("split", [("tie", 1), ("split", more)])]), False)
        self.check(may, ties, ("split", [("split", [("split", last), ("tie", 1)])]), False)
        self.check(may, ties, ("split", [("split", [("tie", 1), ("split", last + last[-1:])])]), False)
        self.check(may, ties, ("split", [("split", [("tie", 1), ("split", tuple(last))])]), False)
        self.check(may, ties, ("split", [("split", [("tie", 1), ["split", last]])]), False)
        self.check(may, ties, ("split", (("split", [("tie", 1), ("split", last)]),)), False)

    def test_no_split_of_a_pattern_that_has_all_steps(self):
        for count in range(1, 7):
            # The tie is broken by every pattern, so only the number of steps speaks against the paper.
            may = [[1, 2] for step in range(count)]
            ties = [("least", 2, (0,))]
            for depth in range(9):
                paper = ("tie", 0)
                for step in range(depth, 0, -1):
                    paper = ("split", [("tie", 0)] * (step - 1) + [paper])
                self.check(may, ties, paper, depth <= count)

    def test_one_step_too_deep(self):
        may = [[1]]
        ties = [("least", 2, (0,))]
        self.check(may, ties, ("split", [("tie", 0)]), True)
        self.check(may, ties, ("split", [("split", [("tie", 0), ("tie", 0)])]), False)
        self.check(may, ties, ("split", [("split", [])]), False)
        self.check([[]], [], ("split", [("split", [("short", [0]), ("short", [0])])]), False)

    def test_tuples_of_other_lengths_and_other_words(self):
        may = [[]]
        ties = [("least", 2, (0,))]
        for paper in (("tie", 0), ("split", [("tie", 0)]), ("split", [("short", [0])])):
            self.check(may, ties, paper, True)
            self.check(may, ties, paper[:1], False)
            self.check(may, ties, paper + paper[1:], False)
            self.check(may, ties, paper + (None,), False)
            self.check(may, ties, paper + ([],), False)
            self.check(may, ties, (), False)
            self.check(may, ties, list(paper), False)
            self.check(may, ties, (paper,), False)
            self.check(may, ties, paper[::-1], False)
            for word in ("", "Tie", "tie ", " split", "SHORT", "dear", "plan", "none", "dealt", 0, None, True, ["tie"]):
                self.check(may, ties, (word, paper[1]), False)
        for paper in (("short", [0]), ["short", [0]], ("short", (0,)), ("short", [0], []), ("shorts", [0])):
            self.check(may, [], ("split", [paper]), paper == ("short", [0]))

    def test_things_of_other_kinds(self):
        for may, ties in (
            ([[1]], []), ([[1, 2], [2]], []), ([[1, 2], [1, 2]], [("most", 1, (0, 1))]), ([[1, 2, 3]] * 6, []),
        ):
            for number, thing in enumerate(OTHER_THINGS):
                with self.subTest(number=number):
                    self.assertIs(shows(may, ties, thing), False)

    def test_things_of_other_kinds_where_papers_show(self):
        for may, ties in (([[], []], []), ([[1], [1]], [("least", 2, (0, 1)), ("least", 3, (0, 1))])):
            for number, thing in enumerate(OTHER_THINGS):
                with self.subTest(number=number):
                    self.assertIs(shows(may, ties, thing), shows_by_words(may, ties, thing))
                    self.assertIs(shows(may, ties, ("split", [thing])), shows_by_words(may, ties, ("split", [thing])))

    def test_neighbours_of_papers_that_show(self):
        for may, ties in (
            ([[]], []),
            ([[1]], [("least", 2, (0,))]),
            ([[1], [1]], [("least", 2, (0, 1))]),
            ([[1], [2]], [("most", 1, (0, 1))]),
            ([[1, 2], [1, 2], [1, 2]], [("least", 3, (0, 1, 2))]),
            ([[1, 2], [1, 2], [3]], [("most", 1, (0, 2))]),
            ([[1, 2], [2, 3], [1, 3]], [("most", 1, (0, 1)), ("most", 1, (1, 2))]),
        ):
            word, paper = plan(may, ties)
            self.assertEqual(word, "none")
            self.check(may, ties, paper, True)
            answers = []
            for other in neighbours(paper):
                answers.append(shows(may, ties, other))
                if answers[-1] is not shows_by_words(may, ties, other):
                    self.fail((may, ties, other))
            self.assertGreater(answers.count(False), 100)

    def test_no_paper_shows_where_there_is_a_plan(self):
        # Papers that show for one may and ties are asked of all the others.
        lists = subsets([1, 2])
        ties = [[], [("most", 1, (0, 1))], [("least", 2, (0, 1))], [("least", 2, (0, 2)), ("most", 2, (0, 1, 2))]]
        cases = [([list(one) for one in may], some) for may in itertools.product(lists, repeat=3) for some in ties]
        papers = {}
        for may, some in cases:
            word, told = plan(may, some)
            if word == "none":
                papers[repr(told)] = told
        for may, some in cases:
            has_plan = has_plan_by_words(may, some)
            found = [paper for paper in papers.values() if shows(may, some, paper)]
            self.assertEqual(found == [], has_plan, (may, some))

    def test_places_are_counted_in_the_list_of_ties(self):
        may = [[1]]
        ties = [("most", 6, (0,))] * 12
        for place in range(12):
            some = list(ties)
            some[place] = ("least", 6, (0,))
            for asked in range(-1, 13):
                self.check(may, some, ("tie", asked), asked == place)


class OwnTest(unittest.TestCase):
    def test_pools(self):
        may = [[1, 2, 3], [2, 3], [3]]
        for pattern in ([], [0], [0, 0], [0, 1], [0, 1, 0], [0, 1, 2]):
            check_own(self, pools_of, list(pattern), [list(badges) for badges in may])

    def test_one_list_at_several_places(self):
        for pattern in ([0, 1], [0, 1, 2], [0, 1, 1]):
            badges = [1, 2]
            check_own(self, pools_of, pattern, [badges, badges, badges])

    def test_papers(self):
        for paper in (
            ("tie", 0), ("split", [("split", [("short", [0]), ("short", [0, 1])])]), ("short", [0, 1]), [1, [2, ([],)]],
            ("split", [("split", [("short", [1, 0]), ("tie", True)])]), None, 5, "tie",
        ):
            check_own(self, shows, [[1], [1]], [("least", 2, (0, 1))], paper)
            check_own(self, shows, [[], [1]], [], paper)

    def test_one_paper_at_several_places(self):
        one = ("short", [0])
        self.assertIs(shows([[], []], [], ("split", [("split", [one, one])])), True)
        blocks = [0]
        paper = ("split", [("split", [("short", blocks), ("short", blocks)])])
        self.assertIs(shows([[], []], [], paper), True)
        self.assertEqual(blocks, [0])


if __name__ == "__main__":
    unittest.main()
