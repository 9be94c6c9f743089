"""The refusals, as the interface lists them."""

import unittest

from bentstretch.errors import NoAsk, NoLoop, NoMap, NoParting, NoPoint, StretchError

OF_A_TEXT = (NoPoint, NoLoop, NoParting, NoAsk)
ALL = OF_A_TEXT + (NoMap,)


class Refusals(unittest.TestCase):

    def test_each_is_a_stretch_error_and_that_a_value_error(self):
        self.assertTrue(issubclass(StretchError, ValueError))
        for kind in ALL:
            self.assertTrue(issubclass(kind, StretchError), kind)
            self.assertTrue(issubclass(kind, ValueError), kind)

    def test_none_stands_under_another_one(self):
        for one in ALL:
            self.assertFalse(issubclass(StretchError, one))
            for other in ALL:
                self.assertEqual(issubclass(one, other), one is other, (one, other))

    def test_made_of_a_text(self):
        for kind in OF_A_TEXT + (StretchError,):
            self.assertEqual(str(kind("told so")), "told so")

    def test_no_map_keeps_its_row(self):
        for row in (0, 1, 7, 1999):
            self.assertEqual(NoMap(row).row, row)
            self.assertIs(type(NoMap(row).row), int)
            self.assertEqual(NoMap(row=row).row, row)

    def test_who_takes_which(self):
        for kind in ALL:
            refusal = kind(3) if kind is NoMap else kind("why")
            for catcher in ALL + (StretchError, ValueError):
                taken = self.taken(refusal, catcher)
                self.assertEqual(taken, catcher in (kind, StretchError, ValueError), (kind, catcher))

    def taken(self, refusal, catcher):
        try:
            raise refusal
        except catcher:
            return True
        except Exception:
            return False

    def test_a_raised_row_is_kept(self):
        with self.assertRaises(StretchError) as caught:
            raise NoMap(5)
        self.assertEqual(caught.exception.row, 5)


if __name__ == "__main__":
    unittest.main()
