"""Promise 1.7 and the texts of 1.8: the text of a form."""

import unittest

import helper
from coneroom.errors import BadText
from coneroom.form import Form
from coneroom.formtext import form_of, text_of

TEXTS = [
    ("form 1 0 0 1 0 -3\n", helper.FLAT),
    ("form 3 1 -1 5 2 -23\n", helper.ROOTLESS),
    ("form 1 0 0 1 0 -1\n", helper.PLAIN),
    ("form 0 1 0 0 0 1\n", ((0, 1, 0), (1, 0, 0), (0, 0, 1))),
    ("form 1000 31 0 1 0 -1\n", ((1000, 31, 0), (31, 1, 0), (0, 0, -1))),
    ("form 0 1 -1000 0 0 1\n", ((0, 1, -1000), (1, 0, 0), (-1000, 0, 1))),
    ("form -1 0 0 1 0 1\n", ((-1, 0, 0), (0, 1, 0), (0, 0, 1))),
    ("form 1 2 3 5 10 22\n", ((1, 2, 3), (2, 5, 10), (3, 10, 22))),
    ("form 10 0 0 10 0 -5\n", ((10, 0, 0), (0, 10, 0), (0, 0, -5))),
]


class TextTest(unittest.TestCase):

    def test_told_texts(self):
        for text, table in TEXTS:
            with self.subTest(text=text):
                self.assertEqual(text_of(Form(table)), text)

    def test_told_forms(self):
        for text, table in TEXTS:
            with self.subTest(text=text):
                form = form_of(text)
                self.assertIsInstance(form, Form)
                self.assertEqual(form.table, table)
                self.assertTrue(helper.is_plain_table(form.table))

    def test_the_example(self):
        flat = form_of("form 1 0 0 1 0 -3\n")
        self.assertEqual((flat.determinant, flat.last), (-3, 3))
        rootless = form_of("form 3 1 -1 5 2 -23\n")
        self.assertEqual((rootless.determinant, rootless.last), (-343, 49))

    def test_there_and_back(self):
        tables = list(helper.small_symmetric_tables(1))
        tables += [Form(small).moved(matrix).table for small, _, matrix in helper.HARD]
        made = 0
        for table in tables:
            try:
                form = Form(table)
            except ValueError:
                continue
            made += 1
            self.assertEqual(form_of(text_of(form)).table, table)
        self.assertGreater(made, 100)

    def test_a_form_is_new_each_time(self):
        first, second = form_of("form 1 0 0 1 0 -3\n"), form_of("form 1 0 0 1 0 -3\n")
        self.assertIsNot(first, second)
        first.table = helper.PLAIN
        self.assertEqual(form_of("form 1 0 0 1 0 -3\n").table, helper.FLAT)


class RefusedTextTest(unittest.TestCase):

    def check_refused(self, *texts):
        for text in texts:
            with self.subTest(text=text):
                with self.assertRaises(BadText):
                    form_of(text)

    def test_texts_without_the_word(self):
        self.check_refused("", "\n", "form", "form\n", "1 0 0 1 0 -3\n", "room 1 0 0 1 0 -3\n")
        self.check_refused("Form 1 0 0 1 0 -3\n", "FORM 1 0 0 1 0 -3\n", "forms 1 0 0 1 0 -3\n")
        self.check_refused(" 1 0 0 1 0 -3\n", "form1 0 0 1 0 -3\n", "form form 1 0 0 1 0 -3\n")

    def test_other_numbers_of_numbers(self):
        self.check_refused("form 1 0 0 1 0\n", "form 1 0 0 1 0 -3 0\n", "form 1 0 0 0 1 0 0 0 -3\n")
        self.check_refused("form 1\n", "form 1 0 0 1 0 -\n", "form 1 0 0 1 0 \n")

    def test_other_spaces(self):
        self.check_refused(
            "form  1 0 0 1 0 -3\n", " form 1 0 0 1 0 -3\n", "form 1 0 0 1 0 -3 \n", "form 1 0 0 1  0 -3\n",
            "form 1 0 0 1 0 - 3\n", "form\t1 0 0 1 0 -3\n", "form 1\t0 0 1 0 -3\n", "form 1,0,0,1,0,-3\n",
            "form\u00a01 0 0 1 0 -3\n", "form 1 0 0 1 0\u2003-3\n",
        )

    def test_other_ends(self):
        self.check_refused(
            "form 1 0 0 1 0 -3", "form 1 0 0 1 0 -3\n\n", "form 1 0 0 1 0 -3\r\n", "form 1 0 0 1 0 -3\r",
            "form 1 0 0 1 0 -3\n ", "\nform 1 0 0 1 0 -3\n", "form 1 0 0 1\n0 -3\n", "form 1 0 0 1 0\n-3\n",
            "form 1 0 0 1 0 -3\nform 1 0 0 1 0 -3\n", "form 1 0 0 1 0 -3\n#", "form 1 0 0 1 0 -3\x00\n",
            "form 1 0 0 1 0 -3\x0b", "form 1 0 0 1 0 -3\u2028",
        )

    def test_other_ways_to_write_numbers(self):
        self.check_refused(
            "form 01 0 0 1 0 -3\n", "form 1 00 0 1 0 -3\n", "form 1 0 0 1 0 -03\n", "form +1 0 0 1 0 -3\n",
            "form 1 -0 0 1 0 -3\n", "form 1 0 0 1 0 --3\n", "form 1.0 0 0 1 0 -3\n", "form 1 0 0 1 0 -3.\n",
            "form 1e0 0 0 1 0 -3\n", "form 0x1 0 0 1 0 -3\n", "form 1_0 0 0 10 0 -5\n", "form one 0 0 1 0 -3\n",
            "form 1 +0 0 1 0 -3\n", "form 1 0 0 1 0 3-\n", "form 1 0 0 1 0 \u22123\n", "form 0001 0 0 1 0 -3\n",
            "form 1 0 0 1 0 -\n", "form 1 0 0 1 0 -000000000000000000003\n",
        )

    def test_digits_that_are_not_decimal(self):
        self.check_refused(
            "form \u0661 0 0 1 0 -3\n", "form 1 0 0 1 0 -\u0663\n", "form \u00b9 0 0 1 0 -3\n",
            "form \uff11 0 0 1 0 -3\n", "form 1 0 0 1 0 -\u00b3\n", "form \u2460 0 0 1 0 -3\n",
        )

    def test_numbers_that_are_not_those_of_a_form(self):
        self.check_refused(
            "form 1 0 0 1 0 1\n", "form 1 0 0 1 0 0\n", "form 0 0 0 0 0 0\n", "form 1 0 0 1 0 -501\n",
            "form -1 0 0 -1 0 -1\n", "form 1 0 0 -1 0 -1\n", "form 1001 31 0 1 0 -1\n", "form 0 1 1001 0 0 1\n",
            "form 0 1 -1001 0 0 1\n", "form 0 1 10000 0 0 1\n", "form 0 1 -99999999999999999999 0 0 1\n",
        )

    def test_very_long_numbers(self):
        self.check_refused("form 0 1 " + "9" * 5000 + " 0 0 1\n", "form 0 1 -" + "1" * 100000 + " 0 0 1\n")
        self.check_refused("form " + "0" * 5000 + " 1 0 0 0 1\n", "form" + " 1" * 100000 + "\n")


if __name__ == "__main__":
    unittest.main()
