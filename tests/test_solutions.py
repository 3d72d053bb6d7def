"""Promises 6.1 to 6.8: all rows of one norm."""

import itertools
import math
import unittest

import helper
from coneroom.errors import BadBase, BadNumber
from coneroom.form import Form
from coneroom.images import folded_closed, images
from coneroom.matrix import image, inverse_of
from coneroom.ring import Closed, lies_in, rim_rows
from coneroom.room import Room
from coneroom.rowsat import rows_at
from coneroom.solutions import all_rows, bare_solutions, comes, lots, most_height, rim_images, solutions

WRONG_K = [0, 201, -1, -200, 202, 10 ** 21, -(10 ** 21), True, False]
WRONG_HEIGHTS = [-1, 301, -300, 302, 10 ** 21, -(10 ** 21), True, False]


def closed_rooms():
    return [Closed(Room(Form(table), base), least) for table, base, least, _, _, _ in helper.CLOSED]


def plain():
    return Closed(Room(Form(helper.PLAIN), (0, 0, 1)), 1)


def flat():
    return Closed(Room(Form(helper.FLAT), (0, 0, 1)), 2)


def most_height_by_search(closed, k):
    """Return what most_height is to return, by the words of 6.2."""
    table, base = closed.room.form.table, closed.room.base
    numbers = []
    for corner in closed.corners:
        norm, product = helper.product_by_sum(table, corner, corner), helper.product_by_sum(table, corner, base)
        g = 0
        while (g * g * -norm < k * product * product) if norm < 0 else (2 * g < k * -product):
            g += 1
        numbers.append(g)
    return sum(sorted(numbers)[-3:])


def room_rows_by_height(closed, k, height):
    """Return the ascending list of the rows of the room with the norm -k up to a height."""
    form, base = closed.room.form, closed.room.base
    rows = [row for a in range(1, height + 1) for row in rows_at(form, base, -a, -k)]
    return sorted(row for row in rows if lies_in(closed, row))


class MostHeightTest(unittest.TestCase):

    def test_the_example(self):
        self.assertEqual(most_height(plain(), 12), 4 + 6 + 5)

    def test_told_numbers(self):
        for k, told in (
            (1, 1 + 1 + 2), (2, 2 + 1 + 2), (3, 2 + 2 + 3), (4, 2 + 2 + 3), (8, 3 + 4 + 4), (200, 15 + 100 + 20),
        ):
            with self.subTest(k=k):
                self.assertEqual(most_height(plain(), k), told)
        for k, told in ((1, 2 + 3 + 3), (2, 3 + 3 + 5), (3, 3 + 4 + 6)):
            with self.subTest(k=k):
                self.assertEqual(most_height(flat(), k), told)

    def test_the_definition(self):
        for closed in closed_rooms():
            for k in (1, 2, 3, 4, 7, 12, 50, 199, 200):
                with self.subTest(table=closed.room.form.table, base=closed.room.base, k=k):
                    self.assertEqual(most_height(closed, k), most_height_by_search(closed, k))

    def test_no_row_of_the_room_is_higher(self):
        for closed in closed_rooms():
            for k in (1, 2, 3, 4, 6, 11):
                most = most_height(closed, k)
                rows = room_rows_by_height(closed, k, min(2 * most + 20, 400))
                with self.subTest(table=closed.room.form.table, base=closed.room.base, k=k):
                    heights = [-closed.room.form.product(row, closed.room.base) for row in rows]
                    self.assertLessEqual(max(heights, default=0), most)

    def test_other_numbers(self):
        for closed in (plain(), flat()):
            for k in WRONG_K:
                with self.subTest(table=closed.room.form.table, k=k):
                    with self.assertRaises(BadNumber):
                        most_height(closed, k)


class SolutionsTest(unittest.TestCase):

    def test_the_examples(self):
        for k, told in (
            (1, [(0, 0, 1)]), (2, [(1, 1, 2)]), (3, [(1, 0, 2)]), (4, [(0, 0, 2), (2, 1, 3)]),
            (7, [(1, 1, 3), (3, 0, 4)]),
        ):
            self.assertEqual(solutions(plain(), k), told)
        for k, told in ((1, [(1, 1, 1)]), (2, [(1, 0, 1)]), (3, [(0, 0, 1)]), (5, [])):
            self.assertEqual(solutions(flat(), k), told)

    def test_the_first_room_by_its_inequalities(self):
        found = {k: [] for k in range(1, 201)}
        # The height of a row of this room is its last item, at most 135.
        for x, y, z in itertools.product(range(136), repeat=3):
            if x >= y and z >= x + y and 1 <= z * z - x * x - y * y <= 200:
                found[z * z - x * x - y * y].append((x, y, z))
        for k, told in found.items():
            with self.subTest(k=k):
                self.assertEqual(solutions(plain(), k), told)

    def test_all_rows_up_to_the_most_height(self):
        for closed in closed_rooms():
            for k in (1, 2, 3, 4, 5, 7, 12, 23, 60, 200):
                most = most_height(closed, k)
                if most <= 1500:
                    with self.subTest(table=closed.room.form.table, base=closed.room.base, k=k):
                        self.assertEqual(solutions(closed, k), room_rows_by_height(closed, k, most))

    def test_rows_far_out_between_two_walls(self):
        # Near a corner on the rim rows of the room are up to 100 times as high as the corner.
        high = 0
        for closed in closed_rooms():
            for k in (100, 200):
                for row in solutions(closed, k):
                    self.assertEqual(helper.product_by_sum(closed.room.form.table, row, row), -k)
                    self.assertIs(lies_in(closed, row), True)
                    height = -closed.room.form.product(row, closed.room.base)
                    self.assertLessEqual(height, most_height(closed, k))
                    high = max(high, height)
        self.assertGreater(high, 300)

    def test_each_row_is_led_to_one_of_the_list(self):
        for closed in closed_rooms():
            form, base = closed.room.form, closed.room.base
            for k in (1, 2, 3, 4, 6, 9, 15, 100):
                rows = all_rows(form, base, k, 60)
                found = {folded_closed(closed, row)[0] for row in rows}
                told = [row for row in solutions(closed, k) if -form.product(row, base) <= 60]
                with self.subTest(table=form.table, base=base, k=k):
                    self.assertEqual(sorted(found), told)

    def test_all_bases_of_a_form_have_as_many(self):
        # A symmetry of a room leads the rows of one norm to such rows: so other rooms have as many.
        for table, base, least, _, _, _ in helper.CLOSED:
            closed = Closed(Room(Form(table), base), least)
            told = [len(solutions(closed, k)) for k in range(1, 13)]
            for p in helper.rows_inside(table, base, 2)[::9]:
                try:
                    other = Closed(Room(Form(table), p), 500)
                except ValueError:
                    continue
                with self.subTest(table=table, p=p):
                    self.assertEqual([len(solutions(other, k)) for k in range(1, 13)], told)

    def test_other_coordinates(self):
        for table, base, least, _, _, _ in helper.CLOSED:
            closed = Closed(Room(Form(table), base), least)
            if closed.room.walls(0):
                continue
            for matrix in helper.TURNING[1:4] + helper.MIRRORING[1:4]:
                back = inverse_of(matrix)
                moved = Closed(Room(Form(table).moved(matrix), image(back, base)), least)
                for k in (1, 2, 6, 200):
                    with self.subTest(table=table, matrix=matrix, k=k):
                        told = sorted(image(back, row) for row in solutions(closed, k))
                        self.assertEqual(solutions(moved, k), told)

    def test_kinds_of_values(self):
        for rows in (solutions(plain(), 7), bare_solutions(plain(), 7), solutions(flat(), 5)):
            self.assertIs(type(rows), list)
            self.assertTrue(all(helper.is_plain_row(row) for row in rows))

    def test_both_halves_of_the_cone(self):
        closed = Closed(Room(Form(helper.PLAIN), (0, 0, -1)), 1)
        for k in (1, 2, 7, 200):
            told = sorted((x, y, -z) for x, y, z in solutions(plain(), k))
            self.assertEqual(solutions(closed, k), told)

    def test_other_numbers(self):
        for closed in (plain(), flat()):
            for k in WRONG_K:
                for action in (solutions, bare_solutions, comes):
                    with self.subTest(table=closed.room.form.table, k=k, action=action.__name__):
                        with self.assertRaises(BadNumber):
                            action(closed, k)


class BareSolutionsTest(unittest.TestCase):

    def test_told_rows(self):
        for k, told in ((1, [(0, 0, 1)]), (4, [(2, 1, 3)]), (7, [(1, 1, 3), (3, 0, 4)]), (12, [(2, 0, 4)])):
            rows = [row for row in solutions(plain(), k) if math.gcd(*row) == 1]
            self.assertEqual(bare_solutions(plain(), k), rows)
            if k != 12:
                self.assertEqual(rows, told)
            else:
                self.assertNotIn((2, 0, 4), rows)
                self.assertIn((2, 0, 4), solutions(plain(), k))

    def test_the_bare_ones_of_all(self):
        for closed in closed_rooms():
            others = 0
            for k in (1, 2, 4, 8, 9, 27, 100, 192, 200):
                rows = solutions(closed, k)
                told = [row for row in rows if math.gcd(*row) == 1]
                others += len(rows) - len(told)
                with self.subTest(table=closed.room.form.table, base=closed.room.base, k=k):
                    self.assertEqual(bare_solutions(closed, k), told)
            self.assertGreater(others, 0)


class ComesTest(unittest.TestCase):

    def test_the_example(self):
        self.assertIs(comes(flat(), 5), False)
        self.assertIs(comes(flat(), 3), True)

    def test_all_rows_of_a_box(self):
        for closed in closed_rooms():
            table = closed.room.form.table
            norms = {helper.product_by_sum(table, row, row) for row in helper.rows_of_box(6)}
            for k in range(1, 25):
                with self.subTest(table=table, base=closed.room.base, k=k):
                    self.assertIs(comes(closed, k), len(solutions(closed, k)) > 0)
                    if -k in norms:
                        self.assertIs(comes(closed, k), True)

    def test_numbers_that_do_not_come(self):
        # x * x + y * y - 3 * z * z = -k: modulo 3, k has to be the negative of a sum of two squares.
        told = [k for k in range(1, 30) if not comes(flat(), k)]
        norms = {x * x + y * y - 3 * z * z for x, y, z in itertools.product(range(60), repeat=3)}
        self.assertEqual(told, [k for k in range(1, 30) if -k not in norms])
        self.assertIn(5, told)


class AllRowsTest(unittest.TestCase):

    def test_told_rows(self):
        form = Form(helper.PLAIN)
        self.assertEqual(all_rows(form, (0, 0, 1), 1, 0), [])
        self.assertEqual(all_rows(form, (0, 0, 1), 1, 1), [(0, 0, 1)])
        self.assertEqual(all_rows(form, (0, 0, 1), 1, 2), [(0, 0, 1)])
        told = [(0, 0, 1), (-2, -2, 3), (-2, 2, 3), (2, -2, 3), (2, 2, 3)]
        self.assertEqual(all_rows(form, (0, 0, 1), 1, 3), sorted(told))
        self.assertEqual(all_rows(form, (0, 0, -1), 1, 2), [(0, 0, -1)])
        self.assertEqual(all_rows(Form(helper.ROOTLESS), (0, 0, 1), 23, 23), [(0, 0, 1)])

    def test_all_rows_by_search(self):
        for table, base in helper.SMALL:
            for k in (1, 2, 3, 4, 10):
                for height in (0, 1, 5, 9):
                    with self.subTest(table=table, base=base, k=k, height=height):
                        told = helper.rows_of_norm(table, base, -k, height)
                        self.assertEqual(all_rows(Form(table), base, k, height), told)

    def test_images_of_the_solutions(self):
        for closed in closed_rooms():
            form, base = closed.room.form, closed.room.base
            for k in (1, 2, 3, 7, 20, 200):
                for height in (0, 30, 120):
                    lists = [images(closed, row, height) for row in solutions(closed, k)]
                    with self.subTest(table=form.table, base=base, k=k, height=height):
                        # Sorted together, rows that were in two lists would stand there twice.
                        self.assertEqual(all_rows(form, base, k, height), sorted(sum(lists, [])))

    def test_great_heights(self):
        for closed in (plain(), flat()):
            form, base = closed.room.form, closed.room.base
            rows = all_rows(form, base, 3, 300)
            self.assertEqual(rows, sorted(sum([images(closed, v, 300) for v in solutions(closed, 3)], [])))
            self.assertEqual(all_rows(form, base, 3, 299), [v for v in rows if -form.product(v, base) <= 299])

    def test_wrong_arguments(self):
        form = Form(helper.PLAIN)
        for base in ((1, 0, 0), (0, 0, 0), (1, 0, 1)):
            for k, height in ((1, 1), (0, 1), (1, -1), (True, True), (201, 301)):
                with self.subTest(base=base, k=k, height=height):
                    with self.assertRaises(BadBase):
                        all_rows(form, base, k, height)
        for k in WRONG_K:
            for height in (0, 300, -1, True):
                with self.assertRaises(BadNumber):
                    all_rows(form, (0, 0, 1), k, height)
        for height in WRONG_HEIGHTS:
            for k in (1, 200):
                with self.subTest(height=height):
                    with self.assertRaises(BadNumber):
                        all_rows(form, (0, 0, 1), k, height)


class RimImagesTest(unittest.TestCase):

    def test_told_rows(self):
        self.assertEqual(rim_images(plain(), 0), [])
        self.assertEqual(rim_images(plain(), 1), [(-1, 0, 1), (0, -1, 1), (0, 1, 1), (1, 0, 1)])
        self.assertEqual(rim_images(plain(), 5), images(plain(), (1, 0, 1), 5))
        for height in (0, 1, 300):
            self.assertEqual(rim_images(flat(), height), [])

    def test_all_rows_by_search(self):
        for closed in closed_rooms():
            table, base = closed.room.form.table, closed.room.base
            for height in (0, 3, 14):
                rows = helper.rows_of_norm(table, base, 0, height)
                told = [row for row in rows if math.gcd(*row) == 1]
                with self.subTest(table=table, base=base, height=height):
                    self.assertEqual(rim_images(closed, height), told)

    def test_images_of_the_corners(self):
        for closed in closed_rooms():
            form, base = closed.room.form, closed.room.base
            rows = rim_images(closed, 300)
            for height in (0, 100, 299, 300):
                told = sum([images(closed, row, height) for row in rim_rows(closed)], [])
                with self.subTest(table=form.table, base=base, height=height):
                    self.assertEqual(rim_images(closed, height), sorted(told))
                    low = [v for v in rows if -form.product(v, base) <= height]
                    self.assertEqual(rim_images(closed, height), low)

    def test_other_heights(self):
        for closed in (plain(), flat()):
            for height in WRONG_HEIGHTS:
                with self.subTest(table=closed.room.form.table, height=height):
                    with self.assertRaises(BadNumber):
                        rim_images(closed, height)


class LotsTest(unittest.TestCase):

    def test_told_numbers(self):
        self.assertEqual(lots(plain(), 1, 0), [((0, 0, 1), 0)])
        self.assertEqual(lots(plain(), 1, 3), [((0, 0, 1), 5)])
        self.assertEqual(lots(plain(), 4, 2), [((0, 0, 2), 1), ((2, 1, 3), 0)])
        self.assertEqual(lots(plain(), 4, 3), [((0, 0, 2), 1), ((2, 1, 3), 8)])
        self.assertEqual(lots(flat(), 5, 300), [])

    def test_numbers_of_images(self):
        for closed in closed_rooms():
            form, base = closed.room.form, closed.room.base
            for k in (1, 4, 12, 200):
                for height in (0, 17, 80):
                    told = [(row, len(images(closed, row, height))) for row in solutions(closed, k)]
                    with self.subTest(table=form.table, base=base, k=k, height=height):
                        self.assertEqual(lots(closed, k, height), told)
                        total = sum(number for _, number in told)
                        self.assertEqual(total, len(all_rows(form, base, k, height)))

    def test_kinds_of_values(self):
        answer = lots(plain(), 7, 20)
        self.assertIs(type(answer), list)
        for row, number in answer:
            self.assertTrue(helper.is_plain_row(row))
            self.assertIs(type(number), int)
        self.assertTrue(all(type(pair) is tuple for pair in answer))

    def test_wrong_numbers(self):
        for closed in (plain(), flat()):
            for k in WRONG_K:
                for height in (0, 300, -1):
                    with self.assertRaises(BadNumber):
                        lots(closed, k, height)
            for height in WRONG_HEIGHTS:
                for k in (1, 5, 200, 201):
                    with self.subTest(table=closed.room.form.table, k=k, height=height):
                        with self.assertRaises(BadNumber):
                            lots(closed, k, height)


if __name__ == "__main__":
    unittest.main()
