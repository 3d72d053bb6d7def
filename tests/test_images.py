"""Promises 5.7 to 5.9: rows folded into a room that closes, and the images of its rows."""

import math
import unittest

import helper
from coneroom.errors import BadNumber, BadRow
from coneroom.fold import folded, unfolded
from coneroom.form import Form
from coneroom.images import folded_closed, images
from coneroom.matrix import image, inverse_of
from coneroom.ring import Closed, lies_in, rim_rows
from coneroom.room import Room

WRONG_HEIGHTS = [-1, 301, -300, 302, 10 ** 21, -(10 ** 21), True, False]


def closed_rooms():
    return [Closed(Room(Form(table), base), least) for table, base, least, _, _, _ in helper.CLOSED]


def plain():
    return Closed(Room(Form(helper.PLAIN), (0, 0, 1)), 1)


def folded_by_steps(closed, walls, v):
    """Return what folded_closed is to return, if the first one of some walls is always taken."""
    table = closed.room.form.table
    word = []
    while True:
        ahead = [r for r in walls if helper.product_by_sum(table, r, v) > 0]
        if not ahead:
            return v, tuple(word)
        word.append(ahead[0])
        v = helper.reflected_by_definition(table, ahead[0], v)


def forward_rows(closed, size):
    """Return all forward rows with small items, inside and on the rim."""
    table, base = closed.room.form.table, closed.room.base
    rows = [row for row in helper.rows_of_box(size) if helper.product_by_sum(table, row, base) < 0]
    return [row for row in rows if helper.product_by_sum(table, row, row) <= 0]


def rows_behind_corners(closed):
    """Return rows that two walls part from the room."""
    form, base = closed.room.form, closed.room.base
    pairs = zip(closed.walls, closed.walls[1:] + closed.walls[:1])
    rows = [unfolded(form, base, (r, s)) for r, s in pairs]
    return [v for v in rows if sum(form.product(r, v) > 0 for r in closed.walls) == 2]


def height_of(closed, row):
    return -helper.product_by_sum(closed.room.form.table, row, closed.room.base)


class FoldedClosedTest(unittest.TestCase):

    def test_the_example(self):
        word = ((1, 1, 1), (0, -1, 0), (-1, 1, 0))
        self.assertEqual(folded_closed(plain(), (4, 3, 5)), ((1, 0, 1), word))
        self.assertEqual(folded_closed(plain(), (2, 2, 3)), ((0, 0, 1), ((1, 1, 1),)))
        self.assertEqual(folded_closed(plain(), (0, -1, 1)), ((1, 0, 1), ((0, -1, 0), (-1, 1, 0))))
        self.assertEqual(folded_closed(plain(), (1, 0, 1)), ((1, 0, 1), ()))

    def test_rows_inside_are_folded_as_in_the_room(self):
        for closed in closed_rooms():
            table, room = closed.room.form.table, closed.room
            for v in helper.rows_inside(table, room.base, 3):
                with self.subTest(table=table, base=room.base, v=v):
                    self.assertEqual(folded_closed(closed, v), folded(room, v))

    def test_the_order_of_the_walls(self):
        others = 0
        for closed in closed_rooms():
            table, walls = closed.room.form.table, closed.room.walls(500)
            for v in forward_rows(closed, 3) + rows_behind_corners(closed):
                told = folded_by_steps(closed, walls, v)
                others += told != folded_by_steps(closed, closed.walls, v)
                with self.subTest(table=table, base=closed.room.base, v=v):
                    self.assertEqual(folded_closed(closed, v), told)
        # For these the order in the ring would make another word.
        self.assertGreater(others, 5)

    def test_rows_on_the_rim(self):
        for closed in closed_rooms():
            form = closed.room.form
            rows = helper.rows_of_norm(form.table, closed.room.base, 0, 25)
            for v in rows:
                row, word = folded_closed(closed, v)
                with self.subTest(table=form.table, base=closed.room.base, v=v):
                    self.assertEqual(unfolded(form, row, word), v)
                    self.assertIs(lies_in(closed, row), True)
                    times = math.gcd(*v)
                    self.assertIn(tuple(item // times for item in row), rim_rows(closed))

    def test_far_rows(self):
        closed = plain()
        far = 10 ** 21
        self.assertEqual(folded_closed(closed, (far, 0, far)), ((far, 0, far), ()))
        self.assertEqual(folded_closed(closed, (0, -far, far))[0], (far, 0, far))
        self.assertEqual(folded_closed(closed, (-1, far, far + 1))[0], (far, 1, far + 1))
        # 3 + 4 i to the power of 40: a row on the rim that is far from all small ones.
        x, y = 3, 4
        for _ in range(39):
            x, y = 3 * x - 4 * y, 4 * x + 3 * y
        row, word = folded_closed(closed, (x, y, 5 ** 40))
        self.assertEqual(row, (1, 0, 1))
        self.assertEqual(unfolded(closed.room.form, row, word), (x, y, 5 ** 40))

    def test_kinds_of_values(self):
        for v in ((4, 3, 5), (1, 0, 1)):
            answer = folded_closed(plain(), v)
            self.assertIs(type(answer), tuple)
            self.assertTrue(helper.is_plain_row(answer[0]))
            self.assertIs(type(answer[1]), tuple)
            self.assertTrue(all(helper.is_plain_row(wall) for wall in answer[1]))

    def test_wrong_rows(self):
        for table, base, rows in (
            (helper.PLAIN, (0, 0, 1), [(0, 0, 0), (0, 0, -1), (-1, 0, -1), (1, 0, 0), (1, 1, 1), (3, 4, -5)]),
            (helper.PLAIN, (0, 0, -1), [(0, 0, 0), (0, 0, 1), (1, 0, 1), (3, 4, 5), (1, 1, -1)]),
            (helper.FLAT, (0, 0, 1), [(0, 0, 0), (0, 0, -1), (2, 0, 1), (-1, -1, -1), (10 ** 21, 0, 1)]),
        ):
            closed = Closed(Room(Form(table), base), 500)
            for row in rows:
                with self.subTest(table=table, base=base, row=row):
                    with self.assertRaises(BadRow):
                        folded_closed(closed, row)


class ImagesTest(unittest.TestCase):

    def test_the_example(self):
        told = [(1, 0, 1), (0, 1, 1), (-1, 0, 1), (0, -1, 1)]
        for x, y in ((3, 4), (4, 3)):
            told.extend([(x, y, 5), (x, -y, 5), (-x, y, 5), (-x, -y, 5)])
        self.assertEqual(images(plain(), (1, 0, 1), 5), sorted(told))
        self.assertEqual(images(plain(), (1, 0, 1), 4), sorted(told[:4]))

    def test_all_images_by_search(self):
        for table, base, least, _, _, _ in helper.CLOSED:
            closed = Closed(Room(Form(table), base), least)
            for row in forward_rows(closed, 2):
                if lies_in(closed, row) and height_of(closed, row) <= 15:
                    for height in (0, height_of(closed, row) - 1, height_of(closed, row), 11, 15):
                        rows = helper.rows_of_norm(table, base, helper.product_by_sum(table, row, row), height)
                        told = [v for v in rows if folded_closed(closed, v)[0] == row]
                        with self.subTest(table=table, base=base, row=row, height=height):
                            self.assertEqual(images(closed, row, height), told)

    def test_images_by_reflections_in_all_roots(self):
        for table, base, least, _, _, _ in helper.CLOSED:
            closed = Closed(Room(Form(table), base), least)
            roots = helper.outward_roots_by_search(table, base, 9)
            for row in closed.corners + (base,):
                found, queue = {row}, [row]
                while queue:
                    v = queue.pop()
                    for w in [helper.reflected_by_definition(table, r, v) for r in roots]:
                        if w not in found and height_of(closed, w) <= 20:
                            found.add(w)
                            queue.append(w)
                with self.subTest(table=table, base=base, row=row):
                    self.assertLessEqual(found - {row}, set(images(closed, row, 20)))
                    self.assertIs(row in images(closed, row, 20), height_of(closed, row) <= 20)

    def test_numbers_of_images(self):
        closed = plain()
        for row, counts in (((0, 0, 1), [0, 1, 1, 5]), ((1, 0, 1), [0, 4, 4, 4]), ((1, 0, 2), [0, 0, 4, 4])):
            for height, count in enumerate(counts):
                with self.subTest(row=row, height=height):
                    self.assertEqual(len(images(closed, row, height)), count)

    def test_images_of_the_base_row(self):
        # Bases at a corner, on one mirror and on none.
        for closed in closed_rooms():
            base, form = closed.room.base, closed.room.form
            self.assertIs(lies_in(closed, base), True)
            self.assertEqual(images(closed, base, -form.norm(base)), [base])
            self.assertEqual(images(closed, base, -form.norm(base) - 1), [])

    def test_great_heights(self):
        for closed in closed_rooms():
            form, base = closed.room.form, closed.room.base
            for row in rim_rows(closed) + [base]:
                rows = images(closed, row, 300)
                self.assertEqual(rows, sorted(set(rows)))
                for height in (0, 100, 299):
                    told = [v for v in rows if -form.product(v, base) <= height]
                    with self.subTest(table=form.table, base=base, row=row, height=height):
                        self.assertEqual(images(closed, row, height), told)
                for v in rows[::50]:
                    self.assertEqual(folded_closed(closed, v)[0], row)

    def test_rows_that_are_higher_than_the_height(self):
        closed = plain()
        for row in ((0, 0, 301), (301, 0, 301), (10 ** 21, 1, 10 ** 21 + 1)):
            self.assertEqual(images(closed, row, 300), [])
        self.assertEqual(images(closed, (0, 0, 300), 300), [(0, 0, 300)])
        self.assertEqual(len(images(closed, (300, 0, 300), 300)), 4)
        self.assertEqual(images(closed, (1, 0, 1), 0), [])

    def test_multiples(self):
        closed = plain()
        for row in ((1, 0, 1), (1, 1, 2), (3, 0, 4)):
            told = [tuple(7 * item for item in v) for v in images(closed, row, 40)]
            self.assertEqual(images(closed, tuple(7 * item for item in row), 280), told)

    def test_other_coordinates(self):
        for table, base, least, _, _, _ in helper.CLOSED:
            closed = Closed(Room(Form(table), base), least)
            if closed.room.walls(0):
                continue
            for matrix in helper.TURNING[1:4]:
                back = inverse_of(matrix)
                moved = Closed(Room(Form(table).moved(matrix), image(back, base)), least)
                for row in (base, closed.corners[0]):
                    told = sorted(image(back, v) for v in images(closed, row, 60))
                    with self.subTest(table=table, matrix=matrix, row=row):
                        self.assertEqual(images(moved, image(back, row), 60), told)

    def test_kinds_of_values(self):
        rows = images(plain(), (1, 0, 1), 5)
        self.assertIs(type(rows), list)
        self.assertTrue(all(helper.is_plain_row(row) for row in rows))

    def test_rows_that_are_not_of_the_room(self):
        for table, base, rows in (
            (helper.PLAIN, (0, 0, 1), [(0, 1, 1), (0, 1, 2), (2, 2, 3), (3, 4, 5), (-1, 0, 2), (1, -1, 3)]),
            (helper.PLAIN, (0, 0, 1), [(0, 0, 0), (0, 0, -1), (-1, 0, -1), (1, 0, 0), (1, 1, 1)]),
            (helper.FLAT, (0, 0, 1), [(0, 1, 1), (0, 0, 0), (0, 0, -1), (2, 0, 1), (3, 1, 2)]),
        ):
            closed = Closed(Room(Form(table), base), 500)
            for row in rows:
                for height in [0, 300] + WRONG_HEIGHTS:
                    with self.subTest(table=table, base=base, row=row, height=height):
                        with self.assertRaises(BadRow):
                            images(closed, row, height)

    def test_other_heights(self):
        closed = plain()
        for row in ((0, 0, 1), (1, 0, 1), (1, 1, 2), (0, 0, 1000)):
            for height in WRONG_HEIGHTS:
                with self.subTest(row=row, height=height):
                    with self.assertRaises(BadNumber):
                        images(closed, row, height)


if __name__ == "__main__":
    unittest.main()
