"""Promises 7.8 to 7.10: the symmetries of closed rooms, and forms that are alike."""

import fractions
import itertools
import unittest

import helper
from coneroom.alike import alike, group
from coneroom.fold import word_matrix
from coneroom.form import Form
from coneroom.keepers import keeps, moves
from coneroom.matrix import image, inverse_of, matrix_product
from coneroom.ring import Closed, is_closed, lies_in
from coneroom.room import Room
from coneroom.solutions import solutions

# Closed rooms of forms that are not alike, whose walls have the same norms and products round the ring:
# two of the same determinant, one of a fourth and one of a ninth of the other one.
SAME_WALLS = [
    (((-3, -3, -1), (-3, 4, -3), (-1, -3, 1)), (0, 1, 1), ((-1, 0, 4), (0, 1, -2), (4, -2, 4)), (1, -1, -1)),
    (((0, -2, 3), (-2, 4, 4), (3, 4, -1)), (0, 0, 1), ((0, -2, 4), (-2, 3, 1), (4, 1, 4)), (1, 0, -1)),
    (((-3, -3, -2), (-3, 1, -2), (-2, -2, -1)), (0, 0, 1), ((-3, -3, 1), (-3, 1, 1), (1, 1, 1)), (1, 0, -1)),
    (((-2, -3, -1), (-3, 2, -1), (-1, -1, 0)), (1, 0, 0), ((0, -3, -3), (-3, 2, -1), (-3, -1, 2)), (1, 0, 1)),
]
# Tables of both determinants that do not lead any of the forms too far.
MATRICES = helper.TURNING[:3] + helper.MIRRORING[:2] + [helper.MIRRORING[3]]
# A form whose room has two symmetries, one of them a turn by half.
TURNING_ROOM = (((1, 0, 0), (0, 5, 0), (0, 0, -2)), (0, 0, 1))


def closed_rooms():
    return [Closed(Room(Form(table), base), least) for table, base, least, _, _, _ in helper.CLOSED]


def moved(closed, matrix):
    """Return the room of a form in other coordinates, to which the inverse of a table leads a room."""
    return Closed(Room(closed.room.form.moved(matrix), image(inverse_of(matrix), closed.room.base)), 500)


def leads_room(first, second, matrix):
    """Return whether a table leads all walls and corners of a closed room to those of another one."""
    walls = sorted(image(matrix, r) for r in first.walls) == sorted(second.walls)
    return walls and sorted(image(matrix, c) for c in first.corners) == sorted(second.corners)


def keeps_products(first, second, matrix):
    columns = list(zip(*matrix))
    return all(
        helper.product_by_sum(second.room.form.table, columns[i], columns[j]) == first.room.form.table[i][j]
        for i in range(3) for j in range(3)
    )


def products_round(closed, start, step):
    """Return the products of all pairs of walls, from one on round the ring."""
    count = len(closed.walls)
    walls = [closed.walls[(start + step * i) % count] for i in range(count)]
    return [closed.room.form.product(r, s) for r in walls for s in walls]


def tables_by_walls(first, second):
    """Return all tables of integers that lead walls side by side to such walls, and products to the same ones."""
    count = len(first.walls)
    if len(second.walls) != count:
        return []
    rows = first.walls[:3]
    whole = helper.determinant_by_sum(rows)
    found = []
    for start, step in itertools.product(range(count), (1, -1)):
        others = [second.walls[(start + step * i) % count] for i in range(3)]
        # The image of a unit row by Cramer's rule: it is made of the others as the unit row is of the rows.
        columns = []
        for unit in helper.UNIT_ROWS:
            parts = [helper.determinant_by_sum(rows[:i] + (unit,) + rows[i + 1:]) for i in range(3)]
            columns.append([
                fractions.Fraction(sum(parts[i] * others[i][j] for i in range(3)), whole) for j in range(3)
            ])
        if all(item.denominator == 1 for column in columns for item in column):
            matrix = helper.matrix_by_columns(*[tuple(map(int, column)) for column in columns])
            if abs(helper.determinant_by_sum(matrix)) == 1 and keeps_products(first, second, matrix):
                if helper.product_by_sum(second.room.form.table, image(matrix, first.room.base), second.room.base) < 0:
                    found.append(matrix)
    return sorted(found)


class GroupTest(unittest.TestCase):

    def test_the_example(self):
        self.assertEqual(group(Closed(Room(Form(helper.PLAIN), (0, 0, 1)), 1)), [helper.IDENTITY])

    def test_told_numbers(self):
        for table, base, least, _, _, members in helper.CLOSED:
            with self.subTest(table=table, base=base):
                self.assertEqual(len(group(Closed(Room(Form(table), base), least))), members)

    def test_a_room_with_a_turn(self):
        closed = Closed(Room(Form(TURNING_ROOM[0]), TURNING_ROOM[1]), 80)
        told = group(closed)
        self.assertEqual(len(told), 2)
        self.assertIn(helper.IDENTITY, told)
        turn = [matrix for matrix in told if matrix != helper.IDENTITY][0]
        for i, wall in enumerate(closed.walls):
            self.assertEqual(image(turn, wall), closed.walls[(i + 3) % 6])

    def test_all_keepers_that_lead_the_base_into_the_room(self):
        tried = 0
        for closed in closed_rooms():
            room, k = closed.room, -closed.room.form.norm(closed.room.base)
            if k <= 200:
                tried += 1
                tables = [matrix for w in solutions(closed, k) for matrix in moves(room.form, room.base, w)]
                told = sorted(matrix for matrix in tables if keeps(room, matrix))
                with self.subTest(table=room.form.table, base=room.base):
                    self.assertEqual(group(closed), told)
        self.assertGreater(tried, 10)

    def test_walls_are_led_to_walls(self):
        for closed in closed_rooms():
            for matrix in group(closed):
                with self.subTest(table=closed.room.form.table, base=closed.room.base, matrix=matrix):
                    self.assertTrue(helper.is_plain_table(matrix))
                    self.assertTrue(leads_room(closed, closed, matrix))
                    self.assertTrue(keeps_products(closed, closed, matrix))
                    self.assertIs(keeps(closed.room, matrix), True)

    def test_the_members_are_a_group(self):
        sizes = set()
        for closed in closed_rooms() + [Closed(Room(Form(t), p), 500) for t, p, _, _ in SAME_WALLS]:
            members = group(closed)
            sizes.add(len(members))
            self.assertIs(type(members), list)
            self.assertEqual(members, sorted(set(members)))
            self.assertLessEqual(len(members), 2 * len(closed.walls))
            self.assertIn(helper.IDENTITY, members)
            for first, second in itertools.product(members, repeat=2):
                self.assertIn(matrix_product(first, second), members)
                self.assertIn(inverse_of(first), members)
        self.assertLessEqual({1, 2}, sizes)

    def test_rooms_of_many_forms(self):
        # Some of these rooms have a turn by half.
        found = set()
        for a, b, c in itertools.product((1, 2, 3, 5, 6, 7, 10, 11), (1, 2, 3, 5, 6, 7, 10, 11), (1, 2, 3, 5, 6, 7)):
            if a * b * c <= 500:
                room = Room(Form(((a, 0, 0), (0, b, 0), (0, 0, -c))), (0, 0, 1))
                if is_closed(room, 500):
                    closed = Closed(room, 500)
                    found.add(len(group(closed)))
                    with self.subTest(a=a, b=b, c=c):
                        self.assertEqual(group(closed), tables_by_walls(closed, closed))
        self.assertGreater(max(found), 1)


class AlikeTest(unittest.TestCase):

    def test_a_room_is_like_itself(self):
        for closed in closed_rooms():
            with self.subTest(table=closed.room.form.table, base=closed.room.base):
                self.assertEqual(alike(closed, closed), group(closed)[0])

    def test_rooms_of_one_form(self):
        pairs = 0
        rooms = closed_rooms()
        for first, second in itertools.product(rooms, repeat=2):
            if first.room.form.table == second.room.form.table:
                pairs += 1
                matrix = alike(first, second)
                with self.subTest(first=first.room.base, second=second.room.base):
                    self.assertTrue(keeps_products(first, second, matrix))
                    self.assertTrue(leads_room(first, second, matrix))
        self.assertGreater(pairs, 40)

    def test_rooms_of_moved_forms(self):
        for closed in closed_rooms():
            for matrix in MATRICES:
                other = moved(closed, matrix)
                for first, second in ((closed, other), (other, closed)):
                    found = alike(first, second)
                    with self.subTest(table=closed.room.form.table, base=closed.room.base, matrix=matrix):
                        self.assertTrue(helper.is_plain_table(found))
                        self.assertIn(helper.determinant_by_sum(found), (1, -1))
                        self.assertTrue(keeps_products(first, second, found))
                        self.assertTrue(leads_room(first, second, found))
                        # All of them are this one, done after the symmetries of the first room.
                        told = sorted(matrix_product(found, member) for member in group(first))
                        self.assertEqual(told[0], found)
                        self.assertEqual(tables_by_walls(first, second), told)

    def test_the_least_of_several_tables(self):
        closed = Closed(Room(Form(TURNING_ROOM[0]), TURNING_ROOM[1]), 80)
        for matrix in MATRICES:
            other = moved(closed, matrix)
            tables = tables_by_walls(closed, other)
            self.assertEqual(len(tables), 2)
            self.assertEqual(alike(closed, other), min(tables))

    def test_rooms_of_other_halves_of_the_cone(self):
        first = Closed(Room(Form(helper.PLAIN), (0, 0, 1)), 1)
        second = Closed(Room(Form(helper.PLAIN), (0, 0, -1)), 1)
        self.assertEqual(alike(first, second), ((1, 0, 0), (0, 1, 0), (0, 0, -1)))
        third = Closed(Room(Form(helper.PLAIN), (0, 1, 3)), 4)
        self.assertEqual(alike(first, third), ((0, 1, 0), (1, 0, 0), (0, 0, 1)))

    def test_forms_that_are_not_alike(self):
        rooms = closed_rooms()
        for first, second in itertools.product(rooms, repeat=2):
            if first.room.form.determinant != second.room.form.determinant:
                with self.subTest(first=first.room.form.table, second=second.room.form.table):
                    self.assertIsNone(alike(first, second))

    def test_the_same_walls_are_not_enough(self):
        for table, base, other, p in SAME_WALLS:
            first, second = Closed(Room(Form(table), base), 500), Closed(Room(Form(other), p), 500)
            told = products_round(first, 0, 1)
            ways = itertools.product(range(len(second.walls)), (1, -1))
            with self.subTest(first=table, second=other):
                self.assertTrue(any(products_round(second, start, step) == told for start, step in ways))
                self.assertIsNone(alike(first, second))
                self.assertIsNone(alike(second, first))
        self.assertEqual(Form(SAME_WALLS[0][0]).determinant, Form(SAME_WALLS[0][2]).determinant)

    def test_by_walls(self):
        rooms = closed_rooms() + [Closed(Room(Form(t), p), 500) for *_, t, p in SAME_WALLS]
        for first, second in itertools.product(rooms, repeat=2):
            tables = tables_by_walls(first, second)
            with self.subTest(first=first.room.form.table, second=second.room.form.table):
                self.assertEqual(alike(first, second), tables[0] if tables else None)


class AreaTest(unittest.TestCase):

    def test_the_area_for_each_member_is_the_same_for_all_bases(self):
        for table, base, least, _, _, _ in helper.CLOSED:
            closed = Closed(Room(Form(table), base), least)
            told = fractions.Fraction(*closed.area) / len(group(closed))
            tried = 0
            for p in helper.rows_inside(table, base, 2):
                room = Room(Form(table), p)
                if is_closed(room, 500):
                    tried += 1
                    other = Closed(room, 500)
                    with self.subTest(table=table, p=p):
                        self.assertEqual(fractions.Fraction(*other.area) / len(group(other)), told)
            self.assertGreater(tried, 1)

    def test_and_for_forms_that_are_alike(self):
        for closed in closed_rooms():
            for matrix in MATRICES:
                other = moved(closed, matrix)
                with self.subTest(table=closed.room.form.table, base=closed.room.base, matrix=matrix):
                    self.assertIsNotNone(alike(closed, other))
                    self.assertEqual((other.area, len(group(other))), (closed.area, len(group(closed))))

    def test_images_of_a_room_are_rooms(self):
        # The mirror images of a base on no mirror have the mirror images of the room.
        for closed in closed_rooms():
            if not closed.room.walls(0):
                for wall in closed.walls:
                    matrix = word_matrix(closed.room.form, (wall,))
                    room = Room(closed.room.form, image(matrix, closed.room.base))
                    other = Closed(room, 500)
                    self.assertTrue(leads_room(closed, other, matrix))
                    self.assertIs(lies_in(other, room.base), True)


if __name__ == "__main__":
    unittest.main()
