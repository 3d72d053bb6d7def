"""What can be answered in a fraction of a second is: forms with great determinants and great items."""

import itertools
import time
import unittest

import helper
from coneroom.alike import alike, group
from coneroom.errors import BadBase, NoBase, NotClosed, TooFar
from coneroom.fold import between, folded, kin, parting, unfolded, word_matrix
from coneroom.form import Form
from coneroom.formtext import form_of, text_of
from coneroom.images import folded_closed, images
from coneroom.keepers import endless, keeps, moves, parts, symmetries
from coneroom.matrix import image, inverse_of, matrix_product
from coneroom.ring import Closed, is_closed, lies_in, rim_rows
from coneroom.room import Room
from coneroom.roots import reflection, roots_at
from coneroom.rowsat import base_of, rows_at
from coneroom.solutions import all_rows, comes, lots, rim_images, solutions
from coneroom.verdict import answer, verdict

# Far more than is needed, far less than a search of all rows would take.
MOST_SECONDS = 1.0

TEXTS = [
    "form -147 334 382 -754 -868 -992\n", "form -214 472 217 -1000 -453 -204\n",
    "form 987 853 499 738 434 261\n", "form 403 203 631 119 319 988\n", "form 6 88 38 995 422 179\n",
    "form 131 -120 354 116 -338 987\n", "form 3 39 9 999 263 70\n", "form 991 -291 -225 81 67 51\n",
    "form 346 592 212 999 359 129\n", "form 988 -431 360 225 -182 148\n", "form 995 65 -453 5 -33 221\n",
    "form 62 52 166 88 296 998\n", "form 128 -356 92 990 -254 68\n", "form 985 -145 -495 5 65 245\n",
]
# Forms of closed rooms with many corners, or corners that are high, and bases that are not the first ones.
CLOSING = [
    (((3, -6, 2), (-6, -6, -4), (2, -4, 4)), (0, 1, 0)), (((-16, 32, -4), (32, -12, -12), (-4, -12, 7)), (0, 1, 0)),
    (((-34, 37, 9), (37, -38, -11), (9, -11, -1)), (0, 0, 1)), (((11, 1, 0), (1, 22, 1), (0, 1, -1)), (0, 0, 1)),
    (((1, 0, 0), (0, 120, 0), (0, 0, -1)), (0, 0, 1)), (((5, 0, 0), (0, 9, 0), (0, 0, -1)), (0, 0, 1)),
    (((4, -1, 0), (-1, 3, -3), (0, -3, 1)), (0, 1, 1)), (((29, 18, 12), (18, -35, 21), (12, 21, 1)), (0, 1, -1)),
    (((2, -1, 2), (-1, 0, 1), (2, 1, 0)), (9, 27, -25)), (((1, 0, 0), (0, 1, 0), (0, 0, -1)), (0, 0, 22)),
    (((-2, -2, -9), (-2, 5, 9), (-9, 9, 6)), (-25, -3, -12)), (((20, 0, 0), (0, 24, 0), (0, 0, -1)), (0, 0, 1)),
]
BASELESS = ["form 38 -126 -153 987 681 669\n", "form 1000 238 -15 83 -50 82\n", "form 998 395 -993 197 -382 991\n"]


class SpeedTest(unittest.TestCase):

    def timed(self, action, *arguments):
        """Return the answer of a call, or the class of its error, and look how long it took."""
        start = time.process_time()
        try:
            answer = action(*arguments)
        except (BadBase, NoBase, NotClosed, TooFar) as error:
            answer = type(error)
        self.assertLess(time.process_time() - start, MOST_SECONDS)
        return answer

    def forms_with_bases(self):
        for text in TEXTS:
            form = form_of(text)
            yield form, self.timed(base_of, form)
        for small, base, matrix in helper.HARD:
            form = Form(small).moved(matrix)
            yield form, image(inverse_of(matrix), base)
            yield form, self.timed(base_of, form)

    def test_the_forms_are_hard(self):
        for text in TEXTS + BASELESS:
            form = form_of(text)
            self.assertTrue(-500 <= form.determinant <= -480)
            self.assertGreaterEqual(max(abs(item) for row in form.table for item in row), 985)

    def test_base_of(self):
        for text in BASELESS:
            self.assertIs(self.timed(base_of, form_of(text)), NoBase)

    def test_rows_at(self):
        for form, base in self.forms_with_bases():
            for a, n in ((0, 0), (-700, 1000), (12345, -1), (-10 ** 5, 999), (form.norm(base), form.norm(base))):
                with self.subTest(table=form.table, base=base, a=a, n=n):
                    rows = self.timed(rows_at, form, base, a, n)
                    for row in rows:
                        self.assertEqual((form.product(row, base), form.norm(row)), (a, n))
            self.assertEqual(rows, [base])

    def test_roots_at(self):
        for form, base in self.forms_with_bases():
            for a in (0, 1, 120, 480, 707, 5000):
                with self.subTest(table=form.table, base=base, a=a):
                    for root in self.timed(roots_at, form, base, a):
                        self.assertTrue(helper.is_root_by_definition(form.table, root))

    def test_walls_and_holds(self):
        for form, base in self.forms_with_bases():
            room = Room(form, base)
            with self.subTest(table=form.table, base=base):
                walls = self.timed(room.walls, 500)
                for row in helper.rows_inside(form.table, base, 3):
                    seen = any(form.product(wall, row) > 0 for wall in walls)
                    answer = self.timed(room.holds, row)
                    self.assertIn(answer, [False] if seen else [True, TooFar])

    def test_great_bases(self):
        for form, base in self.forms_with_bases():
            great = tuple(10 ** 12 * item for item in base)
            far = tuple(10 ** 12 * base[i] + (3, -2, 5)[i] for i in range(3))
            for p in (great, far):
                with self.subTest(table=form.table, p=p):
                    self.assertEqual(self.timed(rows_at, form, p, form.norm(p), form.norm(p)), [p])
                    self.timed(roots_at, form, p, 0)
                    room = Room(form, p)
                    for wall in self.timed(room.walls, 500):
                        self.assertTrue(helper.is_outward_by_definition(form.table, p, wall))
                    self.assertIs(self.timed(room.holds, p), True)
            # No mirror that p does not lie on is near to it, if depths are as great as here.
            self.assertEqual(Room(form, great).walls(500), Room(form, base).walls(0))

    def test_folded_rows_with_items_to_60(self):
        rows = [(60, -7, 55), (-58, 60, 59), (13, 60, -60), (60, 60, 1), (-60, 2, 3), (31, -59, 60), (1, 0, 60)]
        done = 0
        for form, base in self.forms_with_bases():
            room = Room(form, base)
            placed = [helper.forward(form.table, base, row) for row in rows if form.norm(row) < 0]
            for v in placed:
                told = self.timed(folded, room, v)
                self.timed(parting, room, v)
                with self.subTest(table=form.table, base=base, v=v):
                    if told is not TooFar:
                        done += 1
                        self.assertEqual(self.timed(unfolded, form, *told), v)
                        self.assertEqual(self.timed(between, room, told[0], v), word_matrix(form, told[1]))
            self.timed(kin, room, placed * 10)
        self.assertGreater(done, 10)

    def closed_rooms(self):
        """Yield closed rooms of hard forms, as they are told and in other coordinates."""
        turned, moved = ((3, 2, 0), (1, 1, 0), (0, 0, 1)), ((1, 0, 2), (0, 1, 0), (0, 2, 1))
        for table, base in CLOSING:
            for matrix in (helper.IDENTITY, helper.TURNING[1], turned, moved):
                form = Form(table).moved(matrix)
                room = Room(form, image(inverse_of(matrix), base))
                self.assertIs(self.timed(is_closed, room, 500), True)
                yield self.timed(Closed, room, 500)

    def test_closed_rooms_and_images(self):
        rows = [(60, -7, 55), (-58, 60, 59), (13, 60, -60), (60, 60, 1), (-60, 2, 3), (31, -59, 60), (1, 0, 60)]
        for closed in self.closed_rooms():
            room = closed.room
            for row in rows:
                if room.form.norm(row) < 0:
                    v = helper.forward(room.form.table, room.base, row)
                    self.assertEqual(self.timed(folded_closed, closed, v), self.timed(folded, room, v))
            for row in closed.corners + (room.base,):
                self.assertIs(lies_in(closed, row), True)
                with self.subTest(table=room.form.table, base=room.base, row=row):
                    height = -room.form.product(row, room.base)
                    self.assertIs(row in self.timed(images, closed, row, 300), height <= 300)
            self.assertLessEqual(set(rim_rows(closed)), set(closed.corners))
            self.timed(rim_images, closed, 300)

    def test_solutions(self):
        for closed in self.closed_rooms():
            form, base = closed.room.form, closed.room.base
            for k in (1, 36, 144, 199, 200):
                with self.subTest(table=form.table, base=base, k=k):
                    rows = self.timed(solutions, closed, k)
                    self.assertIs(self.timed(comes, closed, k), len(rows) > 0)
                    pairs = self.timed(lots, closed, k, 300)
                    total = len(self.timed(all_rows, form, base, k, 300))
                    self.assertEqual(sum(number for _, number in pairs), total)

    def test_keepers_of_closed_rooms(self):
        for closed in self.closed_rooms():
            room = closed.room
            done = helper.IDENTITY
            for wall in closed.walls * 10:
                done = matrix_product(done, reflection(room.form, wall))
            with self.subTest(table=room.form.table, base=room.base):
                self.assertIs(self.timed(keeps, room, done), False)
                sign, word, rest = self.timed(parts, room, done)
                self.assertEqual((sign, self.timed(word_matrix, room.form, word), rest), (1, done, helper.IDENTITY))
                self.assertIn(done, self.timed(moves, room.form, room.base, image(done, room.base)))
                self.assertLessEqual(len(self.timed(group, closed)), 2 * len(closed.walls))
                self.assertIsNotNone(self.timed(alike, closed, closed))
                self.timed(symmetries, room, 2000)
                self.assertIsNone(self.timed(endless, room, 2000))
                self.timed(verdict, room, 0, 2000)
                self.timed(answer, text_of(room.form), 500, 2000)

    def test_keepers_of_other_rooms(self):
        for form, base in self.forms_with_bases():
            room = Room(form, base)
            size = -form.norm(base)
            most = max(h for h in range(2001) if h * h - size * size <= 500 * size)
            with self.subTest(table=form.table, base=base):
                kept = self.timed(symmetries, room, most)
                self.timed(endless, room, most)
                self.timed(verdict, room, 500, most)
                for matrix in kept[:3]:
                    self.assertIs(self.timed(keeps, room, matrix), True)
                    self.assertIn(matrix, self.timed(moves, form, base, image(matrix, base)))

    def test_moves_of_far_rows(self):
        # The rows are far apart, and the tables have items beyond 10 ** 20.
        for table, base in CLOSING:
            form = Form(table)
            done = helper.IDENTITY
            for wall in itertools.cycle(Room(form, base).walls(500)):
                done = matrix_product(done, reflection(form, wall))
                if max(abs(item) for row in done for item in row) > 10 ** 20:
                    break
            far = image(done, base)
            with self.subTest(table=table, base=base):
                self.assertIn(done, self.timed(moves, form, base, far))
                self.assertIn(helper.IDENTITY, self.timed(moves, form, far, far))


if __name__ == "__main__":
    unittest.main()
