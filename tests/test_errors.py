import unittest

from oftenlots import errors
from oftenlots.errors import NoDay, NoLeast, NoLine, NoRoom, NoText, NoThings, OftenError

KINDS = [NoDay, NoLeast, NoText, NoLine, NoThings, NoRoom]


class Errors(unittest.TestCase):
    def test_all_refusals_stand_under_one_value_error(self):
        self.assertEqual(OftenError.__bases__, (ValueError,))

    def test_each_stands_straight_under_it_and_is_its_own(self):
        for kind in KINDS:
            with self.subTest(kind=kind.__name__):
                self.assertEqual(kind.__bases__, (OftenError,))
                self.assertIs(getattr(errors, kind.__name__), kind)
        self.assertEqual(len({kind.__name__ for kind in KINDS}), 6)

    def test_each_is_made_with_nothing_or_a_text(self):
        for kind in KINDS + [OftenError]:
            with self.subTest(kind=kind.__name__):
                with self.assertRaises(ValueError):
                    raise kind()
                with self.assertRaises(OftenError) as caught:
                    raise kind("no such day")
                self.assertIs(type(caught.exception), kind)
                self.assertEqual(str(caught.exception), "no such day")
                self.assertEqual(str(kind()), "")

    def test_one_is_not_taken_as_another(self):
        for kind in KINDS:
            for other in KINDS:
                if kind is not other:
                    self.assertFalse(issubclass(kind, other))


if __name__ == "__main__":
    unittest.main()
