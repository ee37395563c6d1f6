import unittest

from deskround.ties import breaks, first_broken, keeps
from helper import TOP, breaks_by_words, check_own, keeps_by_words, patterns, ties_of

ALL = (0, 1, 2, 3, 4, 5)


class KeepsTest(unittest.TestCase):
    def test_one_step_is_done_by_one(self):
        for step in range(6):
            for bound in range(1, 7):
                self.assertIs(keeps([1, 2, 3, 4, 5, TOP], ("most", bound, (step,))), True)
                self.assertIs(keeps([1, 2, 3, 4, 5, TOP], ("least", bound, (step,))), bound == 1)

    def test_all_steps(self):
        for unlike in range(1, 7):
            hands = [TOP - min(step, unlike - 1) for step in range(6)]
            for bound in range(1, 7):
                self.assertIs(keeps(hands, ("most", bound, ALL)), unlike <= bound)
                self.assertIs(keeps(hands, ("least", bound, ALL)), unlike >= bound)

    def test_only_the_steps_of_the_tie_are_asked(self):
        hands = [5, 6, 5, 7]
        self.assertIs(keeps(hands, ("most", 1, (0, 2))), True)
        self.assertIs(keeps(hands, ("least", 2, (0, 2))), False)
        self.assertIs(keeps(hands, ("most", 1, (0, 1))), False)
        self.assertIs(keeps(hands, ("least", 2, (0, 1))), True)
        self.assertIs(keeps(hands, ("most", 2, (0, 1, 2))), True)
        self.assertIs(keeps(hands, ("least", 3, (1, 2, 3))), True)
        self.assertIs(keeps(hands, ("least", 3, (0, 1, 2))), False)

    def test_every_tie_of_hands_of_every_shape(self):
        badges = (TOP, 40, 3, TOP - 1, 7, 1)
        for count in range(1, 7):
            ties = ties_of(count)
            for pattern in patterns(count):
                hands = [badges[number] for number in pattern]
                for tie in ties:
                    if keeps(hands, tie) is not keeps_by_words(hands, tie):
                        self.fail((hands, tie))


class BreaksTest(unittest.TestCase):
    def test_no_steps_yet(self):
        for bound in range(1, 7):
            for size in range(1, 7):
                self.assertIs(breaks([], ("most", bound, ALL[:size])), False)
                self.assertIs(breaks([], ("least", bound, ALL[:size])), size < bound)

    def test_some_steps(self):
        self.assertIs(breaks([0, 1], ("most", 1, (0, 1))), True)
        self.assertIs(breaks([0, 0], ("most", 1, (0, 1))), False)
        self.assertIs(breaks([0, 1], ("most", 1, (1, 2, 3))), False)
        self.assertIs(breaks([0, 1, 0], ("most", 1, (1, 2, 3))), True)
        self.assertIs(breaks([0, 0], ("least", 2, (0, 1))), True)
        self.assertIs(breaks([0, 1], ("least", 2, (0, 1))), False)
        self.assertIs(breaks([0, 0], ("least", 2, (0, 1, 2))), False)
        self.assertIs(breaks([0, 0], ("least", 3, (0, 1, 2))), True)
        self.assertIs(breaks([0, 0, 0], ("least", 3, (1, 4, 5))), False)
        self.assertIs(breaks([0, 0, 0], ("least", 3, (1, 2, 5))), True)

    def test_one_step_and_all_steps(self):
        for count in range(7):
            for pattern in patterns(count):
                unlike = len(set(pattern))
                for bound in range(1, 7):
                    self.assertIs(breaks(list(pattern), ("most", bound, ALL)), unlike > bound)
                    self.assertIs(breaks(list(pattern), ("least", bound, ALL)), unlike + 6 - count < bound)
                    for step in range(6):
                        self.assertIs(breaks(list(pattern), ("most", bound, (step,))), False)
                        self.assertIs(breaks(list(pattern), ("least", bound, (step,))), bound > 1)

    def test_every_pattern_and_tie_against_all_hands(self):
        for count in range(1, 7):
            for tie in ties_of(count):
                # Each row that keeps the tie saves all patterns that it begins with.
                kept = {row[:size] for row in patterns(count) if keeps_by_words(row, tie) for size in range(count + 1)}
                for size in range(count + 1):
                    for pattern in patterns(size):
                        if breaks(list(pattern), tie) is not (pattern not in kept):
                            self.fail((count, pattern, tie))

    def test_the_words_apart_from_the_program_agree(self):
        for tie in (("most", 1, (0, 2)), ("least", 2, (0, 2)), ("least", 3, (0, 1, 2))):
            for pattern in ((), (0,), (0, 0), (0, 1), (0, 0, 0), (0, 1, 0), (0, 1, 2)):
                self.assertIs(breaks(list(pattern), tie), breaks_by_words(3, pattern, tie))


class FirstBrokenTest(unittest.TestCase):
    BROKEN = ("most", 1, (0, 1))
    ALSO_BROKEN = ("least", 3, (0, 1))
    KEPT = ("least", 2, (0, 1))

    def check(self, ties, answer):
        self.assertEqual(first_broken([0, 1], ties), answer)
        self.assertIs(type(first_broken([0, 1], ties)), type(answer))

    def test_no_ties(self):
        for pattern in ([], [0], [0, 1], [0, 1, 2, 3, 4, 5]):
            self.assertIsNone(first_broken(pattern, []))

    def test_none_broken(self):
        for count in (1, 2, 12):
            self.check([self.KEPT] * count, None)

    def test_one_broken_at_each_place(self):
        for count in range(1, 13):
            for place in range(count):
                ties = [self.KEPT] * count
                ties[place] = self.BROKEN
                self.check(ties, place)

    def test_several_broken(self):
        self.check([self.BROKEN, self.ALSO_BROKEN], 0)
        self.check([self.KEPT, self.ALSO_BROKEN, self.KEPT, self.BROKEN], 1)
        self.check([self.KEPT, self.KEPT, self.BROKEN, self.BROKEN, self.KEPT], 2)
        self.check([self.BROKEN] * 12, 0)

    def test_the_first_of_all_ties(self):
        ties = [tie for tie in ties_of(3) if tie[1] <= 3]
        for count in range(4):
            for pattern in patterns(count):
                broken = [place for place, tie in enumerate(ties) if breaks_by_words(3, pattern, tie)]
                self.assertEqual(first_broken(list(pattern), ties), broken[0])
                for begin in range(len(ties)):
                    later = [place - begin for place in broken if place >= begin]
                    self.assertEqual(first_broken(list(pattern), ties[begin:]), later[0] if later else None)


class OwnTest(unittest.TestCase):
    def test_what_is_handed_in_stays(self):
        tie = ("most", 1, (0, 2))
        check_own(self, keeps, [5, 6, 5], tie)
        check_own(self, breaks, [0, 1, 0], tie)
        check_own(self, first_broken, [0, 1, 0], [tie, ("least", 2, (0, 2))])
        check_own(self, first_broken, [0, 1, 2], [])

    def test_what_is_done_to_ties_between_is_heard(self):
        ties = [("most", 1, (0, 1)), ("least", 2, (0, 2))]
        pattern = [0, 0, 0]
        self.assertEqual(first_broken(pattern, ties), 1)
        ties.pop()
        self.assertIsNone(first_broken(pattern, ties))
        pattern[1] = 1
        self.assertEqual(first_broken(pattern, ties), 0)


if __name__ == "__main__":
    unittest.main()
