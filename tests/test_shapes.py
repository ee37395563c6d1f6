import itertools
import unittest

from deskround.shapes import grown, shape, shapes, width
from helper import SPOILT, TOP, check_own, is_pattern, patterns

# How many patterns there are of none to six steps.
COUNTS = (1, 1, 2, 5, 15, 52, 203)


class ShapeTest(unittest.TestCase):
    def test_no_hands(self):
        self.assertEqual(shape([]), [])

    def test_one_hand(self):
        for badge in (1, 2, 9, TOP):
            self.assertEqual(shape([badge]), [0])

    def test_hands_alike_and_unlike(self):
        for hands, pattern in (
            ([5, 5], [0, 0]), ([5, 6], [0, 1]), ([6, 5], [0, 1]), ([TOP, 1, TOP], [0, 1, 0]), ([3, 1, 2], [0, 1, 2]),
            ([3, 1, 1], [0, 1, 1]), ([9, 9, 8, 9, 8, 7], [0, 0, 1, 0, 1, 2]), ([6, 5, 4, 3, 2, 1], [0, 1, 2, 3, 4, 5]),
            ([4, 4, 4, 4, 4, 4], [0, 0, 0, 0, 0, 0]), ([1, 2, 3, 3, 2, 1], [0, 1, 2, 2, 1, 0]),
            ([7, 7, 7, 7, 7, 8], [0, 0, 0, 0, 0, 1]), ([8, 7, 7, 7, 7, 7], [0, 1, 1, 1, 1, 1]),
        ):
            with self.subTest(hands=hands):
                self.assertEqual(shape(hands), pattern)

    def test_all_hands_of_some_badges(self):
        # The greatest badge ahead of lesser ones, so that numbers don't go by the badges' order.
        badges = (TOP, 2, 9, 1)
        for count in range(7):
            for hands in itertools.product(badges, repeat=count):
                told = shape(list(hands))
                self.assertEqual(len(told), count)
                self.assertTrue(is_pattern(told))
                for one, other in itertools.combinations(range(count), 2):
                    self.assertEqual(told[one] == told[other], hands[one] == hands[other])

    def test_a_pattern_is_the_shape_of_hands_that_follow_it(self):
        for count in range(7):
            for pattern in patterns(count):
                for badges in ((1, 2, 3, 4, 5, 6), (TOP, 40, 3, TOP - 1, 7, 1)):
                    self.assertEqual(shape([badges[number] for number in pattern]), list(pattern))

    def test_numbers_are_whole(self):
        for number in shape([5, 6, 5]) + shapes(3)[3] + grown([0, 1])[2] + [width([0, 1])]:
            self.assertIs(type(number), int)


class WidthTest(unittest.TestCase):
    def test_told_ones(self):
        for pattern, answer in (
            ([], 0), ([0], 1), ([0, 0], 1), ([0, 1], 2), ([0, 1, 0], 2), ([0, 0, 0, 0, 0, 0], 1),
            ([0, 1, 2, 3, 4, 5], 6), ([0, 1, 2, 2, 1, 0], 3),
        ):
            self.assertEqual(width(pattern), answer)

    def test_every_pattern(self):
        for count in range(7):
            for pattern in patterns(count):
                self.assertEqual(width(list(pattern)), sum(number in pattern for number in range(6)))


class GrownTest(unittest.TestCase):
    def test_told_ones(self):
        self.assertEqual(grown([]), [[0]])
        self.assertEqual(grown([0]), [[0, 0], [0, 1]])
        self.assertEqual(grown([0, 0]), [[0, 0, 0], [0, 0, 1]])
        self.assertEqual(grown([0, 1]), [[0, 1, 0], [0, 1, 1], [0, 1, 2]])
        self.assertEqual(grown([0, 1, 0]), [[0, 1, 0, 0], [0, 1, 0, 1], [0, 1, 0, 2]])
        self.assertEqual(grown([0, 1, 2, 3, 4])[5], [0, 1, 2, 3, 4, 5])

    def test_every_pattern_of_at_most_five_steps(self):
        for count in range(6):
            for pattern in patterns(count):
                told = grown(list(pattern))
                self.assertEqual(len(told), len(set(pattern)) + 1)
                self.assertEqual([longer[:-1] for longer in told], [list(pattern)] * len(told))
                self.assertEqual([longer[-1] for longer in told], list(range(len(told))))
                self.assertTrue(all(is_pattern(longer) for longer in told))


class ShapesTest(unittest.TestCase):
    def test_few_steps(self):
        self.assertEqual(shapes(0), [[]])
        self.assertEqual(shapes(1), [[0]])
        self.assertEqual(shapes(2), [[0, 0], [0, 1]])
        self.assertEqual(shapes(3), [[0, 0, 0], [0, 0, 1], [0, 1, 0], [0, 1, 1], [0, 1, 2]])

    def test_every_count(self):
        for count in range(7):
            told = shapes(count)
            self.assertEqual(len(told), COUNTS[count])
            self.assertEqual(told, sorted(told))
            self.assertEqual(len({tuple(pattern) for pattern in told}), len(told))
            for pattern in told:
                self.assertIs(type(pattern), list)
                self.assertEqual(len(pattern), count)
                self.assertTrue(is_pattern(pattern))
            self.assertEqual(told, [list(pattern) for pattern in patterns(count)])

    def test_they_are_the_shapes_of_hands(self):
        for count in range(6):
            rows = itertools.product(range(1, count + 1), repeat=count)
            found = {tuple(shape(list(hands))) for hands in rows}
            self.assertEqual(shapes(count), [list(pattern) for pattern in sorted(found)])


class OwnTest(unittest.TestCase):
    def test_hands_and_patterns_are_neither_changed_nor_kept(self):
        for hands in ([], [5], [5, 6, 5], [6, 6], [1, 2, 3, 4, 5, 6]):
            check_own(self, shape, hands)
        for pattern in ([], [0], [0, 0], [0, 1, 0], [0, 1, 2, 3, 4]):
            check_own(self, width, list(pattern))
            check_own(self, grown, list(pattern))

    def test_what_is_told_twice_is_told_anew(self):
        for count in range(7):
            check_own(self, shapes, count)
            told = shapes(count)
            told[0].append(SPOILT)
            told.append(SPOILT)
            self.assertEqual(shapes(count), [list(pattern) for pattern in patterns(count)])

    def test_the_shape_of_a_pattern_is_a_new_list(self):
        pattern = [0, 1, 2]
        self.assertIsNot(shape(pattern), pattern)


if __name__ == "__main__":
    unittest.main()
