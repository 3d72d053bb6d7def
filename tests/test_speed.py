"""What can be answered in a fraction of a second is: forms with great determinants and great items."""

import time
import unittest

import helper
from coneroom.errors import BadBase, NoBase, TooFar
from coneroom.form import Form
from coneroom.formtext import form_of
from coneroom.matrix import image, inverse_of
from coneroom.room import Room
from coneroom.roots import roots_at
from coneroom.rowsat import base_of, rows_at

# Far more than is needed, far less than a search of all rows would take.
MOST_SECONDS = 1.0

TEXTS = [
    "form -147 334 382 -754 -868 -992\n", "form -214 472 217 -1000 -453 -204\n",
    "form 987 853 499 738 434 261\n", "form 403 203 631 119 319 988\n", "form 6 88 38 995 422 179\n",
    "form 131 -120 354 116 -338 987\n", "form 3 39 9 999 263 70\n", "form 991 -291 -225 81 67 51\n",
    "form 346 592 212 999 359 129\n", "form 988 -431 360 225 -182 148\n", "form 995 65 -453 5 -33 221\n",
    "form 62 52 166 88 296 998\n", "form 128 -356 92 990 -254 68\n", "form 985 -145 -495 5 65 245\n",
]
BASELESS = ["form 38 -126 -153 987 681 669\n", "form 1000 238 -15 83 -50 82\n", "form 998 395 -993 197 -382 991\n"]


class SpeedTest(unittest.TestCase):

    def timed(self, action, *arguments):
        """Return the answer of a call, or the class of its error, and look how long it took."""
        start = time.process_time()
        try:
            answer = action(*arguments)
        except (BadBase, NoBase, TooFar) as error:
            answer = type(error)
        self.assertLess(time.process_time() - start, MOST_SECONDS)
        return answer

    def forms_with_bases(self):
        for text in TEXTS:
            form = form_of(text)
            yield form, self.timed(base_of, form)
        for small, base, matrix in helper.HARD:
            form = Form(small).moved(matrix)
            yield form, image(inverse_of(matrix), base)
            yield form, self.timed(base_of, form)

    def test_the_forms_are_hard(self):
        for text in TEXTS + BASELESS:
            form = form_of(text)
            self.assertTrue(-500 <= form.determinant <= -480)
            self.assertGreaterEqual(max(abs(item) for row in form.table for item in row), 985)

    def test_base_of(self):
        for text in BASELESS:
            self.assertIs(self.timed(base_of, form_of(text)), NoBase)

    def test_rows_at(self):
        for form, base in self.forms_with_bases():
            for a, n in ((0, 0), (-700, 1000), (12345, -1), (-10 ** 5, 999), (form.norm(base), form.norm(base))):
                with self.subTest(table=form.table, base=base, a=a, n=n):
                    rows = self.timed(rows_at, form, base, a, n)
                    for row in rows:
                        self.assertEqual((form.product(row, base), form.norm(row)), (a, n))
            self.assertEqual(rows, [base])

    def test_roots_at(self):
        for form, base in self.forms_with_bases():
            for a in (0, 1, 120, 480, 707, 5000):
                with self.subTest(table=form.table, base=base, a=a):
                    for root in self.timed(roots_at, form, base, a):
                        self.assertTrue(helper.is_root_by_definition(form.table, root))

    def test_walls_and_holds(self):
        for form, base in self.forms_with_bases():
            room = Room(form, base)
            with self.subTest(table=form.table, base=base):
                walls = self.timed(room.walls, 500)
                for row in helper.rows_inside(form.table, base, 3):
                    seen = any(form.product(wall, row) > 0 for wall in walls)
                    answer = self.timed(room.holds, row)
                    self.assertIn(answer, [False] if seen else [True, TooFar])

    def test_great_bases(self):
        for form, base in self.forms_with_bases():
            great = tuple(10 ** 12 * item for item in base)
            far = tuple(10 ** 12 * base[i] + (3, -2, 5)[i] for i in range(3))
            for p in (great, far):
                with self.subTest(table=form.table, p=p):
                    self.assertEqual(self.timed(rows_at, form, p, form.norm(p), form.norm(p)), [p])
                    self.timed(roots_at, form, p, 0)
                    room = Room(form, p)
                    for wall in self.timed(room.walls, 500):
                        self.assertTrue(helper.is_outward_by_definition(form.table, p, wall))
                    self.assertIs(self.timed(room.holds, p), True)
            # No mirror that p does not lie on is near to it, if depths are as great as here.
            self.assertEqual(Room(form, great).walls(500), Room(form, base).walls(0))


if __name__ == "__main__":
    unittest.main()
