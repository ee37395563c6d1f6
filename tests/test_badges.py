import itertools
import unittest

from deskround.badges import choices, common, is_badge, is_name, is_rising, is_whole, joined, without
from helper import check_own, subsets

TOP = 10 ** 18
MANY_FIGURES = 10 ** 3999 + 7

BADGES = (1, 2, 9, 10, 4711, TOP - 1, TOP)
OTHER_NUMBERS = (0, -1, -2, -TOP, TOP + 1, TOP + 2, 10 ** 19, 2 ** 64, MANY_FIGURES, -MANY_FIGURES)
NO_NUMBERS = (
    True, False, None, "", "1", "a", "one", " ", "\n", "\t", "True", "1" * 4000,
    [], [1], [[1]], [None], [True], ["a"], (), (1,), (1, 2), ((1,),), ([1],), ("a", 1),
)
NAMES = ("a", "b", "y", "z", "ab", "az", "zz", "file", "aaaaaaa", "abcdefgh", "zzzzzzzz", "steps", "may", "not")
NO_TEXTS = (0, 1, TOP, -1, True, False, None, [], ["a"], [["a"]], ["a", "b"], (), ("a",), (("a",),), ("a", "b"))
SMALL = "abcdefghijklmnopqrstuvwxyz"
OTHER_SIGNS = [chr(code) for code in range(32, 127) if chr(code) not in SMALL] + ["\t", "\n", "\r"]


class KindsTest(unittest.TestCase):
    def check(self, ask, things, answer):
        for thing in things:
            with self.subTest(ask=ask.__name__, thing=thing):
                self.assertIs(ask(thing), answer)

    def test_whole_numbers(self):
        self.check(is_whole, BADGES + OTHER_NUMBERS, True)

    def test_no_whole_numbers(self):
        self.check(is_whole, NO_NUMBERS, False)

    def test_badges(self):
        self.check(is_badge, BADGES, True)

    def test_numbers_that_are_no_badges(self):
        self.check(is_badge, OTHER_NUMBERS, False)

    def test_no_numbers_are_no_badges(self):
        self.check(is_badge, NO_NUMBERS, False)

    def test_names(self):
        self.check(is_name, NAMES, True)
        self.check(is_name, [letter * size for letter in SMALL for size in range(1, 9)], True)

    def test_texts_of_other_lengths_are_no_names(self):
        self.check(is_name, ["", "abcdefghi", "aaaaaaaaa", "abcdefghij", "a" * 16, "a" * 4000], False)

    def test_texts_with_another_sign_at_any_place_are_no_names(self):
        for size in range(1, 10):
            for place in range(size):
                texts = ["a" * place + sign + "z" * (size - place - 1) for sign in OTHER_SIGNS]
                self.check(is_name, texts, False)

    def test_texts_around_which_signs_stand_are_no_names(self):
        for sign in OTHER_SIGNS:
            self.check(is_name, [sign, sign + "ab", "ab" + sign, "a" + sign + "b", sign * 8, "abcdefgh" + sign], False)

    def test_no_texts_are_no_names(self):
        self.check(is_name, NO_TEXTS, False)

    def test_things_asked_of_stay_as_they_are(self):
        thing = [1, ["a", [True]], (2, [None])]
        for ask in (is_whole, is_badge, is_name):
            self.assertIs(ask(thing), False)
        self.assertEqual(thing, [1, ["a", [True]], (2, [None])])


class RisingTest(unittest.TestCase):
    def test_no_number_and_one(self):
        for numbers in ([], [0], [1], [-1], [TOP], [MANY_FIGURES]):
            self.assertIs(is_rising(numbers), True)

    def test_rising(self):
        for numbers in ([1, 2], [-1, 0], [-2, -1], [-TOP, 0, TOP], [1, 2, 3, 4, 5, 6], [TOP - 1, TOP], [0, MANY_FIGURES]):
            self.assertIs(is_rising(numbers), True)

    def test_alike_and_falling_at_each_place(self):
        for start in (-40, -3, 0, 1, TOP):
            rising = [start + 2 * step for step in range(7)]
            self.assertIs(is_rising(rising), True)
            for place in range(1, 7):
                for less in (0, 1, 3):
                    numbers = list(rising)
                    numbers[place] = rising[place - 1] - less
                    with self.subTest(numbers=numbers):
                        self.assertIs(is_rising(numbers), False)

    def test_short_lists_against_all_their_pairs(self):
        for size in range(5):
            for row in itertools.product(range(-2, 3), repeat=size):
                numbers = list(row)
                rises = all(one < other for one, other in itertools.combinations(row, 2))
                self.assertIs(is_rising(numbers), rises)
                self.assertEqual(numbers, list(row))


class ListsTest(unittest.TestCase):
    def test_nothing_in_common(self):
        self.assertEqual(common([1, 3], [2, 4]), [])
        self.assertEqual(joined([1, 3], [2, 4]), [1, 2, 3, 4])
        self.assertEqual(without([1, 3], [2, 4]), [1, 3])

    def test_all_in_common(self):
        self.assertEqual(common([1, 3], [1, 3]), [1, 3])
        self.assertEqual(joined([1, 3], [1, 3]), [1, 3])
        self.assertEqual(without([1, 3], [1, 3]), [])

    def test_some_in_common(self):
        self.assertEqual(common([1, 2, TOP], [2, 3, TOP]), [2, TOP])
        self.assertEqual(joined([1, 2, TOP], [2, 3, TOP]), [1, 2, 3, TOP])
        self.assertEqual(without([1, 2, TOP], [2, 3, TOP]), [1])
        self.assertEqual(without([2, 3, TOP], [1, 2, TOP]), [3])

    def test_empty_ones(self):
        for one, other, both, either, alone in (
            ([], [], [], [], []), ([5, 7], [], [], [5, 7], [5, 7]), ([], [5, 7], [], [5, 7], []),
        ):
            self.assertEqual(common(one, other), both)
            self.assertEqual(joined(one, other), either)
            self.assertEqual(without(one, other), alone)

    def test_all_lists_of_some_badges(self):
        # Numbers that a hash table does not walk in their rising order.
        badges = [3, 8, 2 ** 31 - 1, 2 ** 32, TOP - 1, TOP]
        for one, other in itertools.product(subsets(badges), repeat=2):
            self.assertEqual(common(one, other), [badge for badge in badges if badge in one and badge in other])
            self.assertEqual(joined(one, other), [badge for badge in badges if badge in one or badge in other])
            self.assertEqual(without(one, other), [badge for badge in badges if badge in one and badge not in other])

    def test_long_lists(self):
        one = list(range(1, 60001, 2))
        other = list(range(1, 60001, 3))
        self.assertEqual(common(one, other), list(range(1, 60001, 6)))
        self.assertEqual(joined(one, other), [n for n in range(1, 60001) if n % 2 == 1 or n % 3 == 1])
        self.assertEqual(without(one, other), [n for n in one if n % 3 != 1])

    def test_lists_are_not_changed_and_not_kept(self):
        badges = [1, 2, 3, TOP]
        for deed in (common, joined, without):
            for first, second in itertools.product(subsets(badges), repeat=2):
                one = list(first)
                other = list(second)
                told = deed(one, other)
                self.assertIs(type(told), list)
                self.assertEqual((one, other), (first, second))
                as_told = list(told)
                told.append(99)
                self.assertEqual((one, other), (first, second))
                told.pop()
                one.append(98)
                other.insert(0, 97)
                self.assertEqual(told, as_told)

    def test_one_list_on_both_sides(self):
        badges = [1, 2, TOP]
        for deed, answer in ((common, [1, 2, TOP]), (joined, [1, 2, TOP]), (without, [])):
            told = deed(badges, badges)
            self.assertEqual(told, answer)
            told.append(99)
            self.assertEqual(badges, [1, 2, TOP])

    def test_what_is_told_twice_is_told_anew(self):
        for deed in (common, joined, without):
            first = deed([1, 2], [2, 3])
            again = deed([1, 2], [2, 3])
            first.append(99)
            self.assertNotIn(99, again)
            self.assertNotIn(99, deed([1, 2], [2, 3]))


class ChoicesTest(unittest.TestCase):
    def test_few(self):
        self.assertEqual(choices([]), [[]])
        self.assertEqual(choices([4]), [[], [4]])
        self.assertEqual(choices([4, TOP]), [[], [4], [TOP], [4, TOP]])
        self.assertEqual(choices([1, 2, 3]), [[], [1], [2], [3], [1, 2], [1, 3], [2, 3], [1, 2, 3]])

    def test_fewer_members_first_and_as_many_sorted(self):
        for size in range(8):
            numbers = list(range(3, 3 + 2 * size, 2))
            told = choices(numbers)
            self.assertEqual(told, subsets(numbers))
            self.assertEqual(told, sorted(told, key=lambda some: (len(some), some)))

    def test_own(self):
        for numbers in ([], [4], [1, 2, 3]):
            check_own(self, choices, numbers)


if __name__ == "__main__":
    unittest.main()
