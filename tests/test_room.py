"""Promises 3.1 to 3.7: the room of a row and its walls."""

import fractions
import itertools
import math
import unittest

import helper
from coneroom.errors import BadBase, BadNumber, BadRow, TooFar
from coneroom.form import Form
from coneroom.matrix import image, inverse_of, matrix_product
from coneroom.neighbours import makes_ring
from coneroom.room import Room
from coneroom.roots import outward, reflected, reflection, roots_at
from coneroom.rowsat import rows_at

WIDE = ((1, 0, 0), (0, 1, 0), (0, 0, -499))
# The walls of some rooms up to the depth 500.
TOLD_WALLS = [
    (helper.PLAIN, (0, 0, 1), [(-1, 1, 0), (0, -1, 0), (1, 1, 1)]),
    (helper.PLAIN, (0, 1, 3), [(-1, 0, 0), (1, -1, 0), (1, 1, 1)]),
    (helper.PLAIN, (1, 2, 4), [(1, -1, 0), (-1, 0, 0), (1, 1, 1)]),
    (helper.PLAIN, (1, 1, 2), [(-1, -1, -1), (-1, 1, 0), (2, 1, 2)]),
    (helper.FLAT, (0, 0, 1), [(-1, 1, 0), (0, -1, 0), (3, 0, 1)]),
    (helper.FLAT, (1, 1, 1), [(-1, 1, 0), (0, -3, -1), (3, 2, 2)]),
    (helper.ROOTLESS, (0, 0, 1), []),
    (helper.ROOTLESS, (1, 1, -1), []),
    (WIDE, (0, 0, 1), [(-1, 1, 0), (0, -1, 0)]),
    (((1, 0, 0), (0, 5, 0), (0, 0, -2)), (0, 0, 1),
     [(-1, 0, 0), (0, -1, 0), (2, 0, 1), (2, 1, 2), (0, 2, 3), (5, 6, 10)]),
    # Walls of the same depth with different norms.
    (((-1, -3, 1), (-3, 3, 3), (1, 3, 3)), (1, 1, -1), [(0, 1, -3), (0, 1, 0), (1, 0, 1), (3, -1, 0)]),
    (((-1, 0, 0), (0, 2, 1), (0, 1, 4)), (1, 0, 0), [(0, -1, 0), (0, 1, -2), (1, 1, 0), (7, -2, 4), (7, 2, 3)]),
]


def depth_of(form, p, root):
    return fractions.Fraction(form.product(root, p) ** 2, form.norm(root))


def inner_row(p, size):
    """Return a row that is p, moved a little towards e1, still less towards e2, and once more towards e3."""
    return (size ** 3 * p[0] + size * size, size ** 3 * p[1] + size, size ** 3 * p[2] + 1)


class MadeRoomTest(unittest.TestCase):

    def test_attributes(self):
        for table, base in helper.SMALL:
            form = Form(table)
            room = Room(form, base)
            self.assertIs(room.form, form)
            self.assertEqual(room.base, base)

    def test_both_halves_of_the_cone_have_rooms(self):
        form = Form(helper.FLAT)
        self.assertEqual(Room(form, (0, 0, -1)).base, (0, 0, -1))
        self.assertEqual(Room(form, (0, 0, -1)).walls(2), [(-1, 1, 0), (0, -1, 0), (3, 0, -1)])

    def test_bases_that_are_not_inside(self):
        for table, rows in (
            (helper.PLAIN, [(0, 0, 0), (1, 0, 1), (3, 4, 5), (-3, 4, -5), (1, 0, 0), (1, 1, 1), (2, 0, -1)]),
            (helper.FLAT, [(0, 0, 0), (3, 3, 2), (2, 0, 1), (10 ** 21, 0, 1)]),
            (helper.ROOTLESS, [(0, 0, 0), (1, 0, 0), (0, -1, 0)]),
        ):
            for row in rows:
                with self.subTest(table=table, row=row):
                    with self.assertRaises(BadBase):
                        Room(Form(table), row)


class WallsTest(unittest.TestCase):

    def test_the_examples(self):
        room = Room(Form(helper.PLAIN), (0, 0, 1))
        self.assertEqual(room.walls(0), [(-1, 1, 0), (0, -1, 0)])
        self.assertEqual(room.walls(1), [(-1, 1, 0), (0, -1, 0), (1, 1, 1)])
        self.assertEqual(room.walls(500), [(-1, 1, 0), (0, -1, 0), (1, 1, 1)])
        room = Room(Form(helper.FLAT), (0, 0, 1))
        self.assertEqual(room.walls(1), [(-1, 1, 0), (0, -1, 0)])
        self.assertEqual(room.walls(2), [(-1, 1, 0), (0, -1, 0), (3, 0, 1)])
        self.assertEqual(room.walls(500), [(-1, 1, 0), (0, -1, 0), (3, 0, 1)])
        for base in ((0, 0, 1), (0, 0, -1), (1, 1, -1), (2, 3, 4)):
            self.assertEqual(Room(Form(helper.ROOTLESS), base).walls(500), [])

    def test_told_walls(self):
        for table, base, walls in TOLD_WALLS:
            with self.subTest(table=table, base=base):
                self.assertEqual(Room(Form(table), base).walls(500), walls)

    def test_all_walls_by_search(self):
        for table, base in helper.SMALL:
            room = Room(Form(table), base)
            for bound in (0, 1, 2, 4, 9):
                with self.subTest(table=table, base=base, bound=bound):
                    self.assertEqual(room.walls(bound), helper.walls_by_search(table, base, bound))

    def test_bases_on_no_mirror_and_on_one(self):
        form = Form(helper.PLAIN)
        for base, mirrors, flat in (
            ((1, 2, 4), 0, []), ((0, 1, 3), 1, [(-1, 0, 0)]), ((1, 1, 3), 1, [(-1, 1, 0)]),
            ((1, 1, 2), 2, [(-1, -1, -1), (-1, 1, 0)]), ((0, 0, 1), 4, [(-1, 1, 0), (0, -1, 0)]),
        ):
            with self.subTest(base=base):
                self.assertEqual(len(roots_at(form, base, 0)), 2 * mirrors)
                self.assertEqual(Room(form, base).walls(0), flat)
        form = Form(helper.FLAT)
        self.assertEqual(len(roots_at(form, (1, 1, 1), 0)), 12)
        self.assertEqual(Room(form, (1, 1, 1)).walls(0), [(-1, 1, 0), (0, -3, -1)])

    def test_order_and_bounds(self):
        for table, base in helper.SMALL:
            form = Form(table)
            room = Room(form, base)
            walls = room.walls(500)
            places = [(depth_of(form, base, wall), wall) for wall in walls]
            self.assertEqual(places, sorted(places))
            for bound in (0, 1, 3, 7, 28, 80, 81, 499):
                with self.subTest(table=table, base=base, bound=bound):
                    self.assertEqual(room.walls(bound), [wall for depth, wall in places if depth <= bound])

    def test_walls_of_the_depth_of_the_bound(self):
        # The base row is five times another one: so the depths are 25 times those of [2, 16, 20, 20].
        form = Form(((0, -2, -2), (-2, -2, -3), (-2, -3, 1)))
        room = Room(form, (0, -10, -10))
        walls = [(1, -1, 0), (0, 0, -1), (-2, 1, -1), (-1, -2, 2)]
        self.assertEqual([depth_of(form, room.base, wall) for wall in walls], [50, 400, 500, 500])
        for bound, count in ((0, 0), (49, 0), (50, 1), (399, 1), (400, 2), (499, 2), (500, 4)):
            self.assertEqual(room.walls(bound), walls[:count])

    def test_two_walls_have_a_product_of_at_most_zero(self):
        for table, base in helper.SMALL + [(small, base) for small, base, _ in helper.HARD]:
            form = Form(table)
            for v, w in itertools.combinations(Room(form, base).walls(500), 2):
                with self.subTest(table=table, base=base, v=v, w=w):
                    self.assertLessEqual(form.product(v, w), 0)

    def test_walls_are_outward_roots(self):
        for table, base in helper.SMALL:
            form = Form(table)
            for wall in Room(form, base).walls(500):
                self.assertTrue(outward(form, base, wall))

    def test_no_wall_is_one_too_many(self):
        # The mirror image of an inner row in a wall is parted from the room by this wall alone.
        for table, base in helper.SMALL:
            form = Form(table)
            roots = [root for _, root in helper.roots_by_search(table, base, 9)]
            roots = [root for root in roots if helper.is_outward_by_definition(table, base, root)]
            row = inner_row(base, 10 ** 6)
            self.assertTrue(all(form.product(root, row) < 0 for root in roots))
            for wall in Room(form, base).walls(9):
                seen = [root for root in roots if form.product(root, reflected(form, wall, row)) > 0]
                with self.subTest(table=table, base=base, wall=wall):
                    self.assertEqual(seen, [wall])

    def test_the_walls_of_an_image_are_the_images_of_the_walls(self):
        # The base row lies on no mirror: so it does not matter where e1, e2 and e3 are led.
        form = Form(helper.FLAT)
        base = (2, 1, 3)
        self.assertEqual(roots_at(form, base, 0), [])
        walls = Room(form, base).walls(500)
        done = helper.IDENTITY
        for wall in walls * 40:
            done = matrix_product(done, reflection(form, wall))
            p = image(done, base)
            images = [image(done, w) for w in walls]
            told = sorted(images, key=lambda w: (depth_of(form, p, w), w))
            with self.subTest(p=p):
                self.assertEqual(Room(form, p).walls(500), told)
        self.assertGreater(max(map(abs, image(done, base))), 10 ** 9)

    def test_other_bounds(self):
        for table, base in ((helper.PLAIN, (0, 0, 1)), (helper.ROOTLESS, (0, 0, 1))):
            room = Room(Form(table), base)
            for bound in (-1, 501, -500, 502, 10 ** 21, -(10 ** 21), True, False):
                with self.subTest(bound=bound):
                    with self.assertRaises(BadNumber):
                        room.walls(bound)
            self.assertIs(type(room.walls(0)), list)
            self.assertIs(type(room.walls(500)), list)

    def test_the_answer_is_a_new_list_of_rows(self):
        room = Room(Form(helper.FLAT), (0, 0, 1))
        walls = room.walls(2)
        self.assertTrue(all(helper.is_plain_row(wall) for wall in walls))
        walls.clear()
        self.assertEqual(room.walls(2), [(-1, 1, 0), (0, -1, 0), (3, 0, 1)])
        self.assertIsNot(room.walls(2), room.walls(2))


class HardWallsTest(unittest.TestCase):

    # For each of the hard forms a base on no mirror, in small coordinates, and a bound that a search can reach.
    BASES = [
        ((-8, -3, -1), 64), ((-6, -1, -23), None), ((-1, -1, -7), 5), ((-1, -1, -3), 128), ((-4, -3, -1), 4),
        ((-7, -1, -1), None), ((-3, 1, -2), None), ((-4, -3, -1), None), ((-8, -3, -1), 64), ((-2, -1, -1), 32),
    ]

    def rooms(self):
        """Yield small forms, bases, bounds, the rooms in other coordinates, and what leads to these."""
        for (small, _, matrix), (p, bound) in zip(helper.HARD, self.BASES):
            form, back = Form(small).moved(matrix), inverse_of(matrix)
            self.assertEqual(roots_at(Form(small), p, 0), [])
            yield small, p, bound, Room(form, image(back, p)), back

    def led(self, room, back, walls):
        """Return walls in the coordinates of a room, and in the order there."""
        return sorted((image(back, w) for w in walls), key=lambda w: (depth_of(room.form, room.base, w), w))

    def test_the_forms_are_hard(self):
        for _, _, _, room, _ in self.rooms():
            self.assertTrue(-500 <= room.form.determinant <= -480)
            self.assertGreaterEqual(max(abs(item) for row in room.form.table for item in row), 985)

    def test_walls_by_search(self):
        found = 0
        for small, p, bound, room, back in self.rooms():
            if bound is not None:
                walls = helper.walls_by_search(small, p, bound)
                found += len(walls)
                with self.subTest(table=room.form.table):
                    self.assertEqual(room.walls(bound), self.led(room, back, walls))
        self.assertGreater(found, 12)

    def test_walls_in_other_coordinates(self):
        for small, p, _, room, back in self.rooms():
            with self.subTest(table=room.form.table):
                self.assertEqual(room.walls(500), self.led(room, back, Room(Form(small), p).walls(500)))

    def test_walls_among_all_rows_of_a_norm(self):
        # rows_at knows nothing of roots: so no root that it finds may be missing.
        for small, base, _ in helper.HARD:
            form = Form(small)
            pairs = []
            for n in helper.divisors(2 * helper.last_by_search(small)):
                for a in range(math.isqrt(60 * n) + 1):
                    rows = rows_at(form, base, -a, n)
                    roots = [row for row in rows if helper.is_root_by_definition(small, row)]
                    pairs.extend((fractions.Fraction(a * a, n), root) for root in roots)
            with self.subTest(table=small):
                self.assertEqual(Room(form, base).walls(60), helper.walls_among(small, base, pairs))

    def test_told_walls(self):
        form = Form(((1000, 516, 418), (516, 564, 180), (418, 180, 179)))
        self.assertEqual(form.determinant, -480)
        walls = [
            (-4, 1, 8), (3, -1, -6), (45, -11, -94), (52, -13, -108),
            (125, -31, -260), (361, -89, -752), (441, -109, -918),
        ]
        self.assertEqual(Room(form, (12, -3, -25)).walls(500), walls)
        form = Form(((-10, 0, -110), (0, 30, 80), (-110, 80, -995)))
        self.assertEqual(Room(form, (0, 0, 1)).walls(500), [(1, 1, 0), (22, 5, -2), (-11, -3, 1)])
        form = Form(((-265, 515, -328), (515, -999, 645), (-328, 645, -374)))
        self.assertEqual(Room(form, (0, 0, 1)).walls(500), [(-9, -4, 1), (11, 5, -1)])


class ReachTest(unittest.TestCase):

    def test_the_examples(self):
        room = Room(Form(helper.PLAIN), (0, 0, 1))
        self.assertEqual(room.reach((1, 1, 2)), 1)
        self.assertEqual(room.reach((1, 0, 2)), 1)

    def test_told_values(self):
        plain = Room(Form(helper.PLAIN), (0, 0, 1))
        for row, reach in (
            ((0, 0, 1), 0), ((0, 0, 7), 0), ((2, 2, 3), 8), ((4, 2, 5), 4), ((2, 0, 3), 1), ((2, 1, 3), 2),
            ((1000, 0, 1001), 500), ((1001, 0, 1002), 501), ((1, 1, 10 ** 21), 1), ((0, 0, 10 ** 21), 0),
        ):
            with self.subTest(row=row):
                self.assertEqual(plain.reach(row), reach)
        doubled = Room(Form(helper.PLAIN), (0, 0, 2))
        self.assertEqual(doubled.reach((1, 1, 2)), 4)
        self.assertEqual(Room(Form(helper.PLAIN), (0, 0, -1)).reach((1, 1, -2)), 1)
        far = 10 ** 21
        self.assertEqual(plain.reach((2 * far, 2 * far * far, 2 * far * far + 1)), (2 * far * far + 1) ** 2 - 1)

    def test_the_formula(self):
        for table, base in helper.SMALL:
            form = Form(table)
            room = Room(form, base)
            for row in helper.rows_inside(table, base, 3):
                product, norm = form.product(base, row), form.norm(row)
                exact = fractions.Fraction(product * product - form.norm(base) * norm, -norm)
                with self.subTest(table=table, base=base, row=row):
                    self.assertIs(type(room.reach(row)), int)
                    self.assertTrue(exact <= room.reach(row) < exact + 1)

    def test_roots_with_a_product_from_zero_on_are_not_deeper(self):
        for table, base in helper.SMALL:
            form = Form(table)
            room = Room(form, base)
            roots = [root for _, root in helper.roots_by_search(table, base, 9)]
            roots = [root for root in roots if helper.is_outward_by_definition(table, base, root)]
            for row in helper.rows_inside(table, base, 2):
                for root in roots:
                    if form.product(root, row) >= 0:
                        self.assertLessEqual(depth_of(form, base, root), room.reach(row))


class HoldsTest(unittest.TestCase):

    def test_the_first_example(self):
        room = Room(Form(helper.PLAIN), (0, 0, 1))
        for x, y, z in helper.rows_inside(helper.PLAIN, (0, 0, 1), 5):
            with self.subTest(row=(x, y, z)):
                self.assertIs(room.holds((x, y, z)), x >= y >= 0 and z >= x + y)

    def test_all_outward_roots(self):
        for table, base in helper.SMALL:
            form = Form(table)
            room = Room(form, base)
            roots = [root for _, root in helper.roots_by_search(table, base, 9)]
            roots = [root for root in roots if helper.is_outward_by_definition(table, base, root)]
            tried = 0
            for row in helper.rows_inside(table, base, 4):
                if room.reach(row) <= 9:
                    tried += 1
                    told = all(form.product(root, row) <= 0 for root in roots)
                    with self.subTest(table=table, base=base, row=row):
                        self.assertIs(room.holds(row), told)
            self.assertGreater(tried, 0)

    def test_the_base_and_inner_rows(self):
        for table, base in helper.SMALL:
            room = Room(Form(table), base)
            self.assertIs(room.holds(base), True)
            self.assertIs(room.holds(inner_row(base, 10 ** 6)), True)
            self.assertIs(room.holds(tuple(10 ** 21 * item for item in base)), True)

    def test_mirror_images_of_inner_rows(self):
        for table, base in helper.SMALL:
            form = Form(table)
            room = Room(form, base)
            row = inner_row(base, 10 ** 6)
            for wall in room.walls(500):
                self.assertIs(room.holds(reflected(form, wall, row)), False)

    def test_closed_rooms_reach_to_the_end(self):
        room = Room(Form(helper.PLAIN), (0, 0, 1))
        for far in (999, 1000, 1001, 1002, 10 ** 6, 10 ** 21):
            with self.subTest(far=far):
                self.assertIs(room.holds((far, 0, far + 1)), True)
                self.assertIs(room.holds((far, 1, far + 1)), True)
                self.assertIs(room.holds((far, -1, far + 1)), False)
                self.assertIs(room.holds((0, far, far + 1)), False)
                self.assertIs(room.holds((far, 2, far + 1)), False)
        self.assertIs(Room(Form(helper.FLAT), (0, 0, 1)).holds((10 ** 6, 0, 10 ** 6)), True)
        self.assertIs(Room(Form(helper.FLAT), (0, 0, 1)).holds((10 ** 6 + 1, 0, 10 ** 6)), False)

    def test_too_far_without_walls(self):
        room = Room(Form(helper.ROOTLESS), (0, 0, 1))
        self.assertEqual(room.reach((15, -18, 7)), 500)
        self.assertIs(room.holds((15, -18, 7)), True)
        self.assertEqual(room.reach((-16, 9, 8)), 501)
        for row in ((-16, 9, 8), (-33, 23, 18), (-160, 91, 80)):
            with self.subTest(row=row):
                with self.assertRaises(TooFar):
                    room.holds(row)

    def test_too_far_with_walls_that_make_no_ring(self):
        room = Room(Form(WIDE), (0, 0, 1))
        self.assertEqual(room.reach((14, 7, 1)), 482)
        self.assertIs(room.holds((14, 7, 1)), True)
        self.assertIs(room.holds((7, 14, 1)), False)
        for x, y, z in ((15, 5, 1), (30, 10, 2), (22, 0, 1), (22, 3, 1), (22 * 10 ** 20, 0, 10 ** 20)):
            self.assertGreater(room.reach((x, y, z)), 500)
            with self.subTest(row=(x, y, z)):
                with self.assertRaises(TooFar):
                    room.holds((x, y, z))
                # A wall parts these from the base row, so that nothing is too far.
                self.assertIs(room.holds((y - 1, x, z)), False)
                self.assertIs(room.holds((-x, y, z)), False)

    def test_walls_that_make_a_ring_at_500_at_most(self):
        # The depths of the walls are 0, 0 and the square of the last item of the base row.
        near, far = Room(Form(helper.PLAIN), (0, 0, 22)), Room(Form(helper.PLAIN), (0, 0, 23))
        self.assertEqual(len(near.walls(500)), 3)
        self.assertEqual(len(far.walls(500)), 2)
        for row in ((1000, 0, 1001), (2, 1, 3), (3, 1, 4)):
            self.assertGreater(near.reach(row), 500)
            self.assertIs(near.holds(row), True)
            with self.assertRaises(TooFar):
                far.holds(row)
            self.assertIs(far.holds((row[1], row[0], row[2])), False)
        self.assertIs(near.holds((2, 2, 3)), False)
        with self.assertRaises(TooFar):
            far.holds((2, 2, 3))
        self.assertIs(far.holds((1, 0, 3)), True)

    def test_hard_forms(self):
        for small, base, matrix in helper.HARD:
            first, second = Form(small), Form(small).moved(matrix)
            back = inverse_of(matrix)
            room = Room(second, image(back, base))
            walls = room.walls(500)
            for row in helper.rows_inside(small, base, 3):
                moved = image(back, row)
                self.assertEqual(room.reach(moved), Room(first, base).reach(row))
                seen = any(second.product(wall, moved) > 0 for wall in walls)
                with self.subTest(table=second.table, row=moved):
                    if room.reach(moved) <= 500 or seen or makes_ring(second, walls):
                        self.assertIs(room.holds(moved), not seen)
                    else:
                        with self.assertRaises(TooFar):
                            room.holds(moved)


class WrongRowsTest(unittest.TestCase):

    def test_rows_that_are_not_forward_inside(self):
        for table, base, rows in (
            # Zeros; on the rim, forward and not; inside, but not forward; outside.
            (helper.PLAIN, (0, 0, 1), [(0, 0, 0), (1, 0, 1), (3, 4, 5), (-1, 0, -1), (0, 0, -1), (1, 1, -2)]),
            (helper.PLAIN, (0, 0, 1), [(1, 0, 0), (1, 1, 1), (-2, 0, 1), (10 ** 21, 0, 1), (1000, 0, -1001)]),
            (helper.PLAIN, (0, 0, -1), [(0, 0, 1), (1, 1, 2), (1, 0, -1), (1, 1, -1)]),
            (helper.FLAT, (0, 0, 1), [(0, 0, 0), (2, 0, 1), (3, 3, 2), (1, 1, -1), (0, 0, -1)]),
            (helper.ROOTLESS, (0, 0, 1), [(0, 0, 0), (1, 0, 0), (0, 0, -1), (16, -9, -8)]),
        ):
            room = Room(Form(table), base)
            for row in rows:
                with self.subTest(table=table, base=base, row=row):
                    with self.assertRaises(BadRow):
                        room.reach(row)
                    with self.assertRaises(BadRow):
                        room.holds(row)

    def test_forward_is_meant_for_the_base_row(self):
        room = Room(Form(((0, 1, 0), (1, 0, 0), (0, 0, 1))), (-1, 1, 0))
        self.assertIs(room.holds((-2, 2, 1)), True)
        for row in ((1, -1, 0), (2, -2, 1)):
            with self.assertRaises(BadRow):
                room.holds(row)


class RingTest(unittest.TestCase):

    def test_walls_of_closed_rooms(self):
        for table, base, walls in TOLD_WALLS:
            form = Form(table)
            with self.subTest(table=table, base=base):
                self.assertIs(makes_ring(form, walls), len(walls) > 2)
                self.assertIs(makes_ring(form, walls[::-1]), len(walls) > 2)
                for wall in walls:
                    self.assertIs(makes_ring(form, [w for w in walls if w != wall]), False)

    def test_walls_that_do_not_close(self):
        for small, base, _ in helper.HARD:
            form = Form(small)
            walls = Room(form, base).walls(500)
            met = [sum(self.meets(form, v, w) for w in walls if w != v) for v in walls]
            closed = len(walls) > 2 and all(number == 2 for number in met)
            self.assertIs(makes_ring(form, walls), closed)

    def meets(self, form, v, w):
        return form.product(v, w) ** 2 <= form.norm(v) * form.norm(w)

    def test_two_rings_are_not_one(self):
        form = Form(helper.PLAIN)
        first = [(-3, -1, -3), (-1, -2, -2), (1, 1, 1)]
        second = [(-3, -1, 3), (-1, -2, 2), (1, 1, -1)]
        self.assertIs(makes_ring(form, first), True)
        self.assertIs(makes_ring(form, second), True)
        self.assertIs(makes_ring(form, first + second), False)

    def test_no_walls(self):
        self.assertIs(makes_ring(Form(helper.ROOTLESS), []), False)


if __name__ == "__main__":
    unittest.main()
