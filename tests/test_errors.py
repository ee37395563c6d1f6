import unittest

from deskround import errors

NAMES = (
    "TooMany", "Ring", "NoText", "Taken", "NoClerk", "NoLink", "NoRule", "NoRound", "NoFile",
    "Finished", "NoAct", "Done", "NotDone", "NotYet", "NoRight", "Stuck", "NoRow",
)
CLASSES = [getattr(errors, name) for name in NAMES]


class ErrorsTest(unittest.TestCase):
    def test_there_are_seventeen_unlike_classes(self):
        self.assertEqual(len(set(CLASSES)), 17)

    def test_desk_error_stands_beneath_value_error(self):
        self.assertTrue(issubclass(errors.DeskError, ValueError))
        self.assertIsNot(errors.DeskError, ValueError)
        with self.assertRaises(ValueError):
            raise errors.DeskError("refused")

    def test_each_is_taken_as_desk_error_and_as_value_error(self):
        for one in CLASSES:
            for taken_as in (one, errors.DeskError, ValueError):
                with self.subTest(one=one, taken_as=taken_as):
                    with self.assertRaises(taken_as):
                        raise one("refused")
                    with self.assertRaises(taken_as):
                        raise one()

    def test_none_is_taken_as_another_one(self):
        for one in CLASSES:
            for other in CLASSES:
                if one is not other:
                    with self.subTest(one=one, other=other):
                        self.assertFalse(self.is_taken(one, other))

    def test_desk_error_itself_is_taken_as_none_of_them(self):
        for other in CLASSES:
            with self.subTest(other=other):
                self.assertFalse(self.is_taken(errors.DeskError, other))

    def is_taken(self, one, other):
        try:
            raise one("refused")
        except other:
            return True
        except ValueError:
            return False


if __name__ == "__main__":
    unittest.main()
