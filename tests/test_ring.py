"""Promises 4.1 to 4.7: rooms that close, their corners, angles and area."""

import fractions
import itertools
import math
import unittest

import helper
from coneroom.errors import BadBase, BadNumber, BadRow, NotClosed
from coneroom.form import Form
from coneroom.matrix import image, inverse_of
from coneroom.ring import Closed, is_closed, lies_in, rim_rows
from coneroom.room import Room
from coneroom.roots import meet

WRONG_BOUNDS = [-1, 501, -500, 502, 10 ** 21, -(10 ** 21), True, False]


def closed_rooms():
    """Yield what the list of closed rooms tells, with a room in place of the table and the base."""
    for table, base, bound, angles, area, members in helper.CLOSED:
        yield table, Room(Form(table), base), bound, angles, area, members


def open_rooms():
    return [Room(Form(table), base) for table, base in helper.OPEN]


def state_of(closed):
    return closed.walls, closed.corners, closed.angles, closed.area


def next_of(items, i):
    return items[(i + 1) % len(items)]


def makes_ring_by_definition(form, walls):
    """Return whether walls make a ring, by the words of 4.1."""
    near = {r: [s for s in walls if s != r and meet(form, r, s) is not None] for r in walls}
    reached, queue = set(walls[:1]), walls[:1]
    while queue:
        for s in near[queue.pop()]:
            if s not in reached:
                reached.add(s)
                queue.append(s)
    return len(walls) >= 3 and all(len(near[r]) == 2 for r in walls) and len(reached) == len(walls)


def is_sum_of(rows, v):
    """Return whether a row is the sum of three rows, each times a fraction from 0 on, by Cramer's rule."""
    whole = helper.determinant_by_sum(rows)
    parts = [helper.determinant_by_sum(rows[:i] + [v] + rows[i + 1:]) for i in range(3)]
    return whole != 0 and all(part * whole >= 0 for part in parts)


class IsClosedTest(unittest.TestCase):

    def test_the_examples(self):
        first, second = Room(Form(helper.PLAIN), (0, 0, 1)), Room(Form(helper.FLAT), (0, 0, 1))
        self.assertIs(is_closed(first, 0), False)
        self.assertIs(is_closed(first, 1), True)
        self.assertIs(is_closed(second, 1), False)
        self.assertIs(is_closed(second, 2), True)

    def test_least_bounds(self):
        for table, room, least, _, _, _ in closed_rooms():
            for bound, told in ((0, False), (least - 1, False), (least, True), (least + 1, True), (500, True)):
                with self.subTest(table=table, base=room.base, bound=bound):
                    self.assertIs(is_closed(room, bound), told)

    def test_the_definition(self):
        for table, base in helper.SMALL:
            room = Room(Form(table), base)
            for bound in (0, 1, 2, 5, 8, 28, 80, 500):
                with self.subTest(table=table, base=base, bound=bound):
                    told = makes_ring_by_definition(room.form, room.walls(bound))
                    self.assertIs(is_closed(room, bound), told)

    def test_rooms_that_do_not_close(self):
        for room in open_rooms():
            for bound in (0, 1, 100, 500):
                with self.subTest(table=room.form.table, bound=bound):
                    self.assertIs(is_closed(room, bound), False)

    def test_a_room_that_closes_beyond_the_bounds(self):
        # The depth of the third wall is the square of the last item of the base row.
        self.assertIs(is_closed(Room(Form(helper.PLAIN), (0, 0, 22)), 483), False)
        self.assertIs(is_closed(Room(Form(helper.PLAIN), (0, 0, 22)), 484), True)
        self.assertIs(is_closed(Room(Form(helper.PLAIN), (0, 0, 23)), 500), False)

    def test_a_ring_has_no_other_walls(self):
        for table, room, least, _, _, _ in closed_rooms():
            self.assertEqual(room.walls(least), room.walls(500))

    def test_other_bounds(self):
        for room in (Room(Form(helper.PLAIN), (0, 0, 1)), Room(Form(helper.ROOTLESS), (0, 0, 1))):
            for bound in WRONG_BOUNDS:
                for action in (is_closed, Closed):
                    with self.subTest(table=room.form.table, bound=bound, action=action.__name__):
                        with self.assertRaises(BadNumber):
                            action(room, bound)


class ClosedTest(unittest.TestCase):

    def test_the_examples(self):
        room = Room(Form(helper.PLAIN), (0, 0, 1))
        with self.assertRaises(NotClosed):
            Closed(room, 0)
        closed = Closed(room, 1)
        self.assertIs(closed.room, room)
        self.assertEqual(closed.walls, ((-1, 1, 0), (0, -1, 0), (1, 1, 1)))
        self.assertEqual(closed.corners, ((0, 0, 1), (1, 0, 1), (1, 1, 2)))
        self.assertEqual(closed.angles, (4, 0, 2))
        self.assertEqual(closed.area, (1, 4))
        room = Room(Form(helper.FLAT), (0, 0, 1))
        with self.assertRaises(NotClosed):
            Closed(room, 1)
        closed = Closed(room, 2)
        self.assertEqual(closed.walls, ((-1, 1, 0), (0, -1, 0), (3, 0, 1)))
        self.assertEqual(closed.corners, ((0, 0, 1), (1, 0, 1), (1, 1, 1)))
        self.assertEqual(closed.angles, (4, 2, 6))
        self.assertEqual(closed.area, (1, 12))

    def test_told_angles_and_areas(self):
        for table, room, least, angles, area, _ in closed_rooms():
            with self.subTest(table=table, base=room.base):
                closed = Closed(room, least)
                self.assertEqual((closed.angles, closed.area), (angles, area))

    def test_kinds_of_values(self):
        for _, room, _, _, _, _ in closed_rooms():
            closed = Closed(room, 500)
            self.assertIs(closed.room, room)
            for rows in (closed.walls, closed.corners):
                self.assertIs(type(rows), tuple)
                self.assertTrue(all(helper.is_plain_row(row) for row in rows))
            for numbers in (closed.angles, closed.area):
                self.assertIs(type(numbers), tuple)
                self.assertTrue(all(type(number) is int for number in numbers))

    def test_rooms_that_do_not_close(self):
        for room in open_rooms():
            for bound in (0, 500):
                with self.subTest(table=room.form.table, bound=bound):
                    with self.assertRaises(NotClosed):
                        Closed(room, bound)
        for table, room, least, _, _, _ in closed_rooms():
            for bound in {0, least - 1}:
                with self.subTest(table=table, bound=bound):
                    with self.assertRaises(NotClosed):
                        Closed(room, bound)

    def test_a_greater_bound_changes_nothing(self):
        for table, room, least, _, _, _ in closed_rooms():
            told = state_of(Closed(room, least))
            for bound in {min(least + 1, 500), 400, 500} - set(range(least)):
                with self.subTest(table=table, bound=bound):
                    self.assertEqual(state_of(Closed(room, bound)), told)

    def test_walls_stand_in_the_ring(self):
        others = 0
        for table, room, least, _, _, _ in closed_rooms():
            walls, ring = room.walls(500), Closed(room, least).walls
            others += list(ring) != walls
            with self.subTest(table=table, base=room.base):
                self.assertEqual(sorted(ring), sorted(walls))
                self.assertEqual(ring[0], walls[0])
                self.assertLess(walls.index(ring[1]), walls.index(ring[-1]))
                for i, r in enumerate(ring):
                    self.assertIsNotNone(meet(room.form, r, next_of(ring, i)))
        # The order in the ring is not that of the depths.
        self.assertGreater(others, 2)

    def test_pairs_of_walls_that_are_no_neighbours_do_not_meet(self):
        for table, room, least, _, _, _ in closed_rooms():
            ring = Closed(room, least).walls
            for (i, r), (j, s) in itertools.combinations(enumerate(ring), 2):
                beside = j - i in (1, len(ring) - 1)
                with self.subTest(table=table, r=r, s=s):
                    self.assertIs(meet(room.form, r, s) is not None, beside)

    def test_corners(self):
        for table, room, _, _, _, _ in closed_rooms():
            closed = Closed(room, 500)
            self.assertEqual(len(closed.corners), len(closed.walls))
            for i, corner in enumerate(closed.corners):
                with self.subTest(table=table, base=room.base, i=i):
                    self.assertEqual(helper.product_by_sum(table, closed.walls[i], corner), 0)
                    self.assertEqual(helper.product_by_sum(table, next_of(closed.walls, i), corner), 0)
                    self.assertEqual(math.gcd(*corner), 1)
                    self.assertLess(helper.product_by_sum(table, corner, room.base), 0)
                    norm = helper.product_by_sum(table, corner, corner)
                    self.assertLessEqual(norm, 0)
                    self.assertIs(norm == 0, closed.angles[i] == 0)

    def test_angles(self):
        for table, room, _, _, _, _ in closed_rooms():
            closed = Closed(room, 500)
            for i, m in enumerate(closed.angles):
                r, s = closed.walls[i], next_of(closed.walls, i)
                product = helper.product_by_sum(table, r, s)
                cosine = -product / math.sqrt(room.form.norm(r) * room.form.norm(s))
                with self.subTest(table=table, base=room.base, i=i):
                    self.assertEqual(m, meet(room.form, r, s))
                    self.assertAlmostEqual(math.acos(min(cosine, 1)), math.pi / m if m else 0)

    def test_areas(self):
        for table, room, _, _, _, _ in closed_rooms():
            closed = Closed(room, 500)
            area = len(closed.walls) - 2 - sum(fractions.Fraction(1, m) for m in closed.angles if m)
            with self.subTest(table=table, base=room.base):
                self.assertEqual(closed.area, (area.numerator, area.denominator))
                self.assertGreater(area, 0)

    def test_all_rooms_of_a_form_close(self):
        for table, room, _, _, area, _ in closed_rooms():
            found = 0
            for base in helper.rows_inside(table, room.base, 2):
                other = Room(room.form, base)
                if is_closed(other, 500):
                    found += 1
                    closed = Closed(other, 500)
                    with self.subTest(table=table, base=base):
                        self.assertEqual(closed.area, area)
                        self.assertEqual(len(closed.walls), len(Closed(room, 500).walls))
            self.assertGreater(found, 1)

    def test_forms_in_other_coordinates(self):
        # Only a base on no mirror leaves no choice to the unit rows, which are other ones after the move.
        found = 0
        for table, room, least, _, area, _ in closed_rooms():
            if room.walls(0):
                continue
            found += 1
            closed = Closed(room, least)
            for matrix in helper.TURNING[1:4] + helper.MIRRORING[:4]:
                form, back = room.form.moved(matrix), inverse_of(matrix)
                moved = Closed(Room(form, image(back, room.base)), least)
                with self.subTest(table=table, matrix=matrix):
                    self.assertEqual(sorted(moved.walls), sorted(image(back, r) for r in closed.walls))
                    self.assertEqual(sorted(moved.corners), sorted(image(back, c) for c in closed.corners))
                    self.assertEqual((sorted(moved.angles), moved.area), (sorted(closed.angles), area))
        self.assertGreater(found, 1)

    def test_hard_forms(self):
        found = 0
        for small, base, matrix in helper.HARD:
            form, back = Form(small).moved(matrix), inverse_of(matrix)
            room, other = Room(Form(small), base), Room(form, image(back, base))
            with self.subTest(table=form.table):
                self.assertIs(is_closed(other, 500), is_closed(room, 500))
                if is_closed(room, 500):
                    found += 1
                    self.assertEqual(Closed(other, 500).area, Closed(room, 500).area)
                    self.assertEqual(sorted(Closed(other, 500).angles), sorted(Closed(room, 500).angles))
        self.assertGreater(found, 1)

    def test_both_halves_of_the_cone(self):
        closed = Closed(Room(Form(helper.PLAIN), (0, 0, -1)), 1)
        self.assertEqual(closed.walls, ((-1, 1, 0), (0, -1, 0), (1, 1, -1)))
        self.assertEqual(closed.corners, ((0, 0, -1), (1, 0, -1), (1, 1, -2)))
        self.assertEqual(rim_rows(closed), [(1, 0, -1)])

    def test_a_base_that_is_not_inside_has_no_room(self):
        for base in ((1, 0, 0), (1, 0, 1), (0, 0, 0)):
            with self.assertRaises(BadBase):
                Closed(Room(Form(helper.PLAIN), base), 501)


class LiesInTest(unittest.TestCase):

    def test_the_first_example(self):
        closed = Closed(Room(Form(helper.PLAIN), (0, 0, 1)), 1)
        for x, y, z in helper.rows_of_box(5):
            if z > 0 and x * x + y * y <= z * z:
                with self.subTest(row=(x, y, z)):
                    self.assertIs(lies_in(closed, (x, y, z)), x >= y >= 0 and z >= x + y)

    def test_the_room_as_it_was_before_it_closed(self):
        for table, room, least, _, _, _ in closed_rooms():
            closed = Closed(room, least)
            for row in helper.rows_inside(table, room.base, 3):
                with self.subTest(table=table, base=room.base, row=row):
                    self.assertIs(lies_in(closed, row), room.holds(row))

    def test_corners_and_base_lie_in_the_room(self):
        for table, room, least, _, _, _ in closed_rooms():
            closed = Closed(room, least)
            for row in closed.corners + (room.base,):
                with self.subTest(table=table, base=room.base, row=row):
                    self.assertIs(lies_in(closed, row), True)
                    self.assertIs(lies_in(closed, tuple(10 ** 21 * item for item in row)), True)

    def test_each_row_is_a_sum_of_three_corners(self):
        for table, room, least, _, _, _ in closed_rooms():
            closed = Closed(room, least)
            first, others = closed.corners[0], closed.corners[1:]
            fans = [[first, c, d] for c, d in zip(others, others[1:])]
            for row in helper.rows_inside(table, room.base, 3):
                with self.subTest(table=table, base=room.base, row=row):
                    self.assertIs(lies_in(closed, row), any(is_sum_of(fan, row) for fan in fans))

    def test_no_root_parts_two_corners(self):
        for table, base, least, _, _, _ in helper.CLOSED:
            closed = Closed(Room(Form(table), base), least)
            roots = [root for _, root in helper.roots_by_search(table, base, 9)]
            for root in roots:
                products = [helper.product_by_sum(table, root, corner) for corner in closed.corners]
                with self.subTest(table=table, base=base, root=root):
                    self.assertTrue(min(products) >= 0 or max(products) <= 0)

    def test_rows_on_the_rim(self):
        closed = Closed(Room(Form(helper.PLAIN), (0, 0, 1)), 1)
        for row in ((1, 0, 1), (7, 0, 7), (10 ** 21, 0, 10 ** 21)):
            self.assertIs(lies_in(closed, row), True)
        for row in ((0, 1, 1), (-1, 0, 1), (3, 4, 5), (4, 3, 5), (20, 21, 29)):
            self.assertIs(lies_in(closed, row), False)

    def test_other_rows(self):
        for table, base, rows in (
            # Zeros; not forward, inside and on the rim; outside.
            (helper.PLAIN, (0, 0, 1), [(0, 0, 0), (0, 0, -1), (-1, 0, -1), (1, 0, 0), (1, 1, 1), (2, 1, 2)]),
            (helper.PLAIN, (0, 0, -1), [(0, 0, 0), (0, 0, 1), (1, 0, 1), (1, 0, 0), (0, 2, -1)]),
            (helper.FLAT, (0, 0, 1), [(0, 0, 0), (0, 0, -1), (2, 0, 1), (10 ** 21, 0, 1), (1, 1, -1)]),
        ):
            closed = Closed(Room(Form(table), base), 500)
            for row in rows:
                with self.subTest(table=table, base=base, row=row):
                    with self.assertRaises(BadRow):
                        lies_in(closed, row)


class RimRowsTest(unittest.TestCase):

    def test_the_examples(self):
        self.assertEqual(rim_rows(Closed(Room(Form(helper.PLAIN), (0, 0, 1)), 1)), [(1, 0, 1)])
        self.assertEqual(rim_rows(Closed(Room(Form(helper.FLAT), (0, 0, 1)), 2)), [])

    def test_corners_on_the_rim(self):
        counts = set()
        for table, room, least, angles, _, _ in closed_rooms():
            closed = Closed(room, least)
            rows = rim_rows(closed)
            counts.add(len(rows))
            with self.subTest(table=table, base=room.base):
                self.assertIs(type(rows), list)
                self.assertEqual(len(rows), angles.count(0))
                self.assertEqual(rows, sorted(c for c, m in zip(closed.corners, angles) if m == 0))
        self.assertEqual(counts, {0, 1, 2, 6})

    def test_no_other_bare_rows_of_the_room_lie_on_the_rim(self):
        for table, room, least, _, _, _ in closed_rooms():
            closed = Closed(room, least)
            rows = helper.rows_of_norm(table, room.base, 0, 12)
            found = [row for row in rows if math.gcd(*row) == 1 and lies_in(closed, row)]
            told = [row for row in rim_rows(closed) if -helper.product_by_sum(table, row, room.base) <= 12]
            with self.subTest(table=table, base=room.base):
                self.assertEqual(found, told)


if __name__ == "__main__":
    unittest.main()
