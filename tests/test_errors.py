"""Points 2 and the interface: the refusals."""

import unittest

from evenstrand.errors import NoLine, NoPage, NoText, StrandError, Twice


class Refusals(unittest.TestCase):
    def test_strand_error_is_a_value_error(self):
        self.assertEqual(StrandError.__bases__, (ValueError,))

    def test_each_stands_straight_under_strand_error(self):
        for kind in (NoText, NoPage, Twice, NoLine):
            self.assertEqual(kind.__bases__, (StrandError,))

    def test_none_stands_under_another(self):
        kinds = (NoText, NoPage, Twice, NoLine)
        for one in kinds:
            for other in kinds:
                self.assertEqual(issubclass(one, other), one is other)

    def test_no_text_has_its_row(self):
        for row in (0, 1, 20, 10 ** 40):
            self.assertEqual(NoText(row).row, row)
            self.assertEqual(NoText(row=row).row, row)
        with self.assertRaises(StrandError) as caught:
            raise NoText(7)
        self.assertEqual(caught.exception.row, 7)

    def test_the_others_are_made_with_a_text(self):
        for kind in (NoPage, Twice, NoLine):
            self.assertEqual(str(kind("so it is")), "so it is")
            with self.assertRaises(StrandError):
                raise kind("so it is")

    def test_no_text_needs_its_row(self):
        with self.assertRaises(TypeError):
            NoText()


if __name__ == "__main__":
    unittest.main()
