"""Promises 5.1 to 5.6 and 5.9: rows folded into a room, and words of walls."""

import itertools
import unittest

import helper
from coneroom.errors import BadBase, BadRoot, BadRow, TooFar
from coneroom.fold import between, folded, kin, parting, unfolded, word_matrix
from coneroom.form import Form
from coneroom.matrix import image, inverse_of, matrix_product
from coneroom.ring import is_closed
from coneroom.room import Room
from coneroom.roots import outward, reflected, reflection, roots_at

WIDE = ((1, 0, 0), (0, 1, 0), (0, 0, -499))
# Rows that are not placed, for tables and bases: zeros, on the rim, not forward, outside.
WRONG_ROWS = [
    (helper.PLAIN, (0, 0, 1), [(0, 0, 0), (1, 0, 1), (3, 4, 5), (-1, 0, -1), (0, 0, -1), (1, 1, -2), (1, 0, 0)]),
    (helper.PLAIN, (0, 0, -1), [(0, 0, 0), (0, 0, 1), (1, 1, 2), (1, 0, -1), (1, 1, -1)]),
    (helper.FLAT, (0, 0, 1), [(0, 0, 0), (3, 3, 2), (2, 0, 1), (1, 1, -1), (10 ** 21, 0, 1)]),
    (helper.ROOTLESS, (0, 0, 1), [(0, 0, 0), (1, 0, 0), (0, 0, -1), (16, -9, -8)]),
]


def rooms():
    """Return the rooms of the small forms, those that close and those that do not."""
    return [Room(Form(table), base) for table, base in helper.SMALL + helper.OPEN]


def folded_by_steps(room, walls, v):
    """Return what folded is to return, by the words of 5.1."""
    word = []
    while True:
        ahead = [r for r in walls if helper.product_by_sum(room.form.table, r, v) > 0]
        if not ahead:
            return v, tuple(word)
        word.append(ahead[0])
        v = helper.reflected_by_definition(room.form.table, ahead[0], v)


def far_images(room, row, count):
    """Return images of a row in walls, each of them behind the wall that it comes from."""
    walls = room.walls(500)
    rows = []
    for wall in walls * count:
        if room.form.product(wall, row) < 0:
            row = reflected(room.form, wall, row)
            rows.append(row)
    return rows


class FoldedTest(unittest.TestCase):

    def test_the_examples(self):
        room = Room(Form(helper.PLAIN), (0, 0, 1))
        self.assertEqual(folded(room, (2, 2, 3)), ((0, 0, 1), ((1, 1, 1),)))
        self.assertEqual(folded(room, (0, 0, 1)), ((0, 0, 1), ()))
        self.assertEqual(folded(room, (0, 2, 3)), ((2, 0, 3), ((-1, 1, 0),)))
        self.assertEqual(folded(room, (-1, 0, 2)), ((1, 0, 2), ((-1, 1, 0), (0, -1, 0), (-1, 1, 0))))

    def test_the_steps(self):
        tried = 0
        for room in rooms():
            walls = room.walls(500)
            for v in helper.rows_inside(room.form.table, room.base, 4):
                if room.reach(v) <= 500:
                    tried += 1
                    with self.subTest(table=room.form.table, base=room.base, v=v):
                        self.assertEqual(folded(room, v), folded_by_steps(room, walls, v))
        self.assertGreater(tried, 2000)

    def test_reflections_in_any_roots_lead_to_the_same_row(self):
        for table, base in helper.SMALL:
            room = Room(Form(table), base)
            roots = helper.outward_roots_by_search(table, base, 9)
            for v in helper.rows_inside(table, base, 3):
                if room.reach(v) <= 9:
                    with self.subTest(table=table, base=base, v=v):
                        self.assertEqual(folded(room, v)[0], helper.folded_by_search(table, roots, v))

    def test_rows_of_the_room_have_no_word(self):
        for room in rooms():
            for v in helper.rows_inside(room.form.table, room.base, 3):
                if room.reach(v) <= 500:
                    row, word = folded(room, v)
                    with self.subTest(table=room.form.table, base=room.base, v=v):
                        self.assertIs(word == (), room.holds(v))
                        self.assertIs(row == v, room.holds(v))
                        self.assertIs(room.holds(row), True)
                        self.assertEqual(folded(room, row), (row, ()))

    def test_a_row_and_its_images_have_the_same_folded_row(self):
        for room in rooms():
            for v in helper.rows_inside(room.form.table, room.base, 2):
                if room.reach(v) <= 500:
                    row = folded(room, v)[0]
                    for w in [w for w in far_images(room, v, 2) if room.reach(w) <= 500]:
                        with self.subTest(table=room.form.table, base=room.base, v=v, w=w):
                            self.assertEqual(folded(room, w)[0], row)

    def test_norms_are_kept_and_heights_are_not_exceeded(self):
        for room in rooms():
            for v in helper.rows_inside(room.form.table, room.base, 4):
                if room.reach(v) <= 500:
                    row, word = folded(room, v)
                    for wall in word:
                        w = reflected(room.form, wall, v)
                        self.assertEqual(room.form.norm(w), room.form.norm(v))
                        self.assertLessEqual(-room.form.product(w, room.base), -room.form.product(v, room.base))
                        v = w
                    self.assertEqual(v, row)

    def test_kinds_of_values(self):
        for v in ((2, 2, 3), (0, 0, 1)):
            answer = folded(Room(Form(helper.PLAIN), (0, 0, 1)), v)
            self.assertIs(type(answer), tuple)
            row, word = answer
            self.assertTrue(helper.is_plain_row(row))
            self.assertIs(type(word), tuple)
            self.assertTrue(all(helper.is_plain_row(wall) for wall in word))

    def test_far_rows_of_closed_rooms(self):
        room = Room(Form(helper.PLAIN), (0, 0, 1))
        far = 10 ** 21
        self.assertEqual(folded(room, (far, 1, far + 1)), ((far, 1, far + 1), ()))
        self.assertEqual(folded(room, (-1, far, far + 1))[0], (far, 1, far + 1))
        for table, base, least, _, _, _ in helper.CLOSED:
            room = Room(Form(table), base)
            rows = far_images(room, base, 12)
            self.assertGreater(max(room.reach(row) for row in rows), 500)
            for row in rows:
                with self.subTest(table=table, base=base, row=row):
                    self.assertEqual(folded(room, row)[0], base)
                    self.assertEqual(unfolded(room.form, base, folded(room, row)[1]), row)

    def test_too_far(self):
        room = Room(Form(helper.ROOTLESS), (0, 0, 1))
        self.assertEqual(room.reach((15, -18, 7)), 500)
        self.assertEqual(folded(room, (15, -18, 7)), ((15, -18, 7), ()))
        self.assertEqual(room.reach((-16, 9, 8)), 501)
        for row in ((-16, 9, 8), (-33, 23, 18), (-160, 91, 80)):
            with self.assertRaises(TooFar):
                folded(room, row)
        # Here it does not matter that a wall parts the row from the base row.
        room = Room(Form(WIDE), (0, 0, 1))
        self.assertEqual(folded(room, (-14, 7, 1))[0], (14, 7, 1))
        for row in ((15, 5, 1), (-15, 5, 1), (5, 15, 1), (22, 0, 1), (0, -22, 1), (-22 * 10 ** 20, 0, 10 ** 20)):
            with self.subTest(row=row):
                self.assertGreater(room.reach(row), 500)
                with self.assertRaises(TooFar):
                    folded(room, row)

    def test_walls_that_make_a_ring_at_500_at_most(self):
        near, far = Room(Form(helper.PLAIN), (0, 0, 22)), Room(Form(helper.PLAIN), (0, 0, 23))
        for row in ((2, 2, 3), (0, 1000, 1001), (1, 2, 3)):
            self.assertGreater(near.reach(row), 500)
            self.assertIs(near.holds(folded(near, row)[0]), True)
            with self.assertRaises(TooFar):
                folded(far, row)
        self.assertEqual(folded(far, (0, -1, 3))[0], (1, 0, 3))

    def test_wrong_rows(self):
        for table, base, rows in WRONG_ROWS:
            room = Room(Form(table), base)
            for row in rows:
                with self.subTest(table=table, base=base, row=row):
                    with self.assertRaises(BadRow):
                        folded(room, row)


class WordTest(unittest.TestCase):

    def test_the_empty_word(self):
        for table, base in helper.SMALL:
            self.assertEqual(word_matrix(Form(table), ()), helper.IDENTITY)
            self.assertEqual(unfolded(Form(table), (4, -5, 6), ()), (4, -5, 6))

    def test_one_root(self):
        form = Form(helper.FLAT)
        for root in ((-1, 1, 0), (3, 0, 1), (-3, 0, -1), (1, 2, 1)):
            with self.subTest(root=root):
                self.assertEqual(word_matrix(form, (root,)), reflection(form, root))
                self.assertEqual(unfolded(form, (4, -5, 6), (root,)), reflected(form, root, (4, -5, 6)))

    def test_the_order_of_the_roots(self):
        form = Form(helper.PLAIN)
        turn = word_matrix(form, ((-1, 1, 0), (0, -1, 0)))
        self.assertEqual(turn, ((0, -1, 0), (1, 0, 0), (0, 0, 1)))
        self.assertEqual(word_matrix(form, ((0, -1, 0), (-1, 1, 0))), inverse_of(turn))
        self.assertEqual(unfolded(form, (1, 0, 2), ((-1, 1, 0), (0, -1, 0))), (0, 1, 2))
        self.assertEqual(unfolded(form, (1, 0, 2), ((0, -1, 0), (-1, 1, 0))), (0, -1, 2))

    def test_products_of_reflections(self):
        for table, base in helper.SMALL:
            form = Form(table)
            roots = [root for _, root in helper.roots_by_search(table, base, 4)][:6]
            for word in itertools.product(roots, repeat=3):
                told = helper.product_of_tables(*[helper.reflection_by_definition(table, r) for r in word])
                with self.subTest(table=table, word=word):
                    self.assertEqual(word_matrix(form, word), told)
                    self.assertEqual(unfolded(form, (1, -2, 5), word), helper.image_by_sum(told, (1, -2, 5)))

    def test_unfolded_undoes_folded(self):
        for room in rooms():
            for v in helper.rows_inside(room.form.table, room.base, 4):
                if room.reach(v) <= 500:
                    row, word = folded(room, v)
                    with self.subTest(table=room.form.table, base=room.base, v=v):
                        self.assertEqual(unfolded(room.form, row, word), v)
                        self.assertEqual(image(word_matrix(room.form, word), row), v)

    def test_any_row_is_unfolded(self):
        form = Form(helper.PLAIN)
        word = ((1, 1, 1), (0, -1, 0))
        for row in helper.ROWS + helper.GREAT_ROWS:
            self.assertEqual(unfolded(form, row, word), image(word_matrix(form, word), row))

    def test_matrices_of_words_are_forward_keepers(self):
        for room in rooms():
            for wall in room.walls(500):
                word = tuple(room.walls(500)[:4]) + (wall,)
                matrix = word_matrix(room.form, word)
                self.assertTrue(helper.keeps_products(room.form.table, matrix))
                self.assertEqual(helper.determinant_by_sum(matrix), (-1) ** len(word))
                self.assertLess(room.form.product(room.base, image(matrix, room.base)), 0)

    def test_members_that_are_no_roots(self):
        for table, good, others in (
            (helper.PLAIN, (1, 1, 1), [(2, 2, 2), (0, 0, 0), (0, 0, 1), (1, 0, 1), (2, 1, 0), (3, 0, 1)]),
            (helper.FLAT, (3, 0, 1), [(6, 0, 2), (0, 0, 0), (0, 0, 1), (1, 1, 1), (3, 1, 0)]),
            (helper.PLAIN, (1, 1, 1), [(True, 0, 0), [1, 1, 1], (1, 1), "abc", None, 7, ((1, 1, 1),)]),
        ):
            form = Form(table)
            for other in others:
                for word in ((other,), (other, good), (good, other), (good, other, good)):
                    with self.subTest(table=table, word=word):
                        with self.assertRaises(BadRoot):
                            word_matrix(form, word)
                        with self.assertRaises(BadRoot):
                            unfolded(form, (1, 2, 3), word)
        for word in (((1, 0, 0),), ((0, 0, 1), (1, 0, 0))):
            with self.assertRaises(BadRoot):
                word_matrix(Form(helper.ROOTLESS), word)


class BetweenTest(unittest.TestCase):

    def test_told_tables(self):
        room = Room(Form(helper.PLAIN), (0, 0, 1))
        self.assertEqual(between(room, (2, 2, 3), (0, 0, 1)), reflection(room.form, (1, 1, 1)))
        self.assertEqual(between(room, (0, 0, 1), (2, 2, 3)), reflection(room.form, (1, 1, 1)))
        self.assertEqual(between(room, (1, 0, 2), (0, 1, 2)), reflection(room.form, (-1, 1, 0)))
        self.assertEqual(between(room, (2, 2, 3), (2, 2, 3)), helper.IDENTITY)
        self.assertIsNone(between(room, (0, 0, 1), (0, 0, 2)))
        self.assertIsNone(between(room, (2, 2, 3), (1, 1, 2)))
        # The same norm is not enough.
        self.assertIsNone(between(room, (0, 0, 2), (2, 1, 3)))
        self.assertIsNone(between(room, (1, 1, 3), (3, 0, 4)))

    def test_the_words(self):
        for room in rooms():
            rows = helper.rows_inside(room.form.table, room.base, 2)
            rows = [v for v in rows if room.reach(v) <= 500]
            for v, w in itertools.product(rows[:10], repeat=2):
                (start, there), (end, back) = folded(room, v), folded(room, w)
                told = None
                if start == end:
                    first, second = word_matrix(room.form, back), word_matrix(room.form, there[::-1])
                    told = matrix_product(first, second)
                    self.assertEqual(image(told, v), w)
                with self.subTest(table=room.form.table, base=room.base, v=v, w=w):
                    self.assertEqual(between(room, v, w), told)

    def test_images(self):
        for table, base, _, _, _, _ in helper.CLOSED:
            room = Room(Form(table), base)
            rows = far_images(room, base, 3)
            for v, w in zip(rows, rows[::-1]):
                matrix = between(room, v, w)
                with self.subTest(table=table, base=base, v=v, w=w):
                    self.assertEqual(image(matrix, v), w)
                    self.assertTrue(helper.keeps_products(table, matrix))
                    self.assertTrue(helper.is_plain_table(matrix))

    def test_wrong_rows(self):
        for table, base, rows in WRONG_ROWS:
            room = Room(Form(table), base)
            for row in rows:
                for pair in ((row, base), (base, row), (row, row)):
                    with self.subTest(table=table, base=base, pair=pair):
                        with self.assertRaises(BadRow):
                            between(room, *pair)

    def test_the_first_row_is_looked_at_first(self):
        room = Room(Form(helper.ROOTLESS), (0, 0, 1))
        far, bad, good = (-16, 9, 8), (1, 0, 0), (0, 0, 1)
        for v, w, error in (
            (far, bad, TooFar), (bad, far, BadRow), (far, good, TooFar), (good, far, TooFar), (far, far, TooFar),
            (good, bad, BadRow), (bad, good, BadRow),
        ):
            with self.subTest(v=v, w=w):
                with self.assertRaises(error):
                    between(room, v, w)


class PartingTest(unittest.TestCase):

    def test_told_roots(self):
        room = Room(Form(helper.PLAIN), (0, 0, 1))
        self.assertEqual(parting(room, (0, 0, 1)), [])
        self.assertEqual(parting(room, (1, 1, 2)), [])
        self.assertEqual(parting(room, (2, 2, 3)), [(1, 1, 1)])
        self.assertEqual(parting(room, (-1, 0, 2)), [(-1, -1, 0), (-1, 0, 0), (-1, 1, 0)])
        self.assertEqual(parting(Room(Form(helper.ROOTLESS), (0, 0, 1)), (1, 1, 1)), [])

    def test_all_roots_by_search(self):
        tried = 0
        for table, base in helper.SMALL:
            room = Room(Form(table), base)
            roots = helper.outward_roots_by_search(table, base, 12)
            for v in helper.rows_inside(table, base, 3):
                if room.reach(v) <= 12:
                    tried += 1
                    told = [r for r in roots if helper.product_by_sum(table, r, v) > 0]
                    with self.subTest(table=table, base=base, v=v):
                        self.assertEqual(parting(room, v), told)
        self.assertGreater(tried, 300)

    def test_words_are_as_long(self):
        for room in rooms():
            for v in helper.rows_inside(room.form.table, room.base, 4):
                if room.reach(v) <= 60:
                    roots = parting(room, v)
                    with self.subTest(table=room.form.table, base=room.base, v=v):
                        self.assertEqual(len(folded(room, v)[1]), len(roots))
                        self.assertEqual(roots, sorted(set(roots)))
                        for r in roots:
                            self.assertTrue(outward(room.form, room.base, r))
                            self.assertGreater(room.form.product(r, v), 0)

    def test_too_far(self):
        room = Room(Form(helper.PLAIN), (0, 0, 1))
        for row, reach in (((-30, 0, 31), 15), ((120, 0, 121), 60), ((-120, 0, 121), 60)):
            with self.subTest(row=row):
                self.assertEqual(room.reach(row), reach)
                self.assertEqual(len(parting(room, row)), len(folded(room, row)[1]))
        for row, reach in (((122, 0, 123), 61), ((-122, 0, 123), 61), ((1001, 0, 1002), 501)):
            with self.subTest(row=row):
                self.assertEqual(room.reach(row), reach)
                with self.assertRaises(TooFar):
                    parting(room, row)
        # No root parts this row from the base row, and it is too far nevertheless.
        self.assertIs(room.holds((122, 0, 123)), True)

    def test_wrong_rows(self):
        for table, base, rows in WRONG_ROWS:
            room = Room(Form(table), base)
            for row in rows:
                with self.subTest(table=table, base=base, row=row):
                    with self.assertRaises(BadRow):
                        parting(room, row)


class KinTest(unittest.TestCase):

    def test_told_rows(self):
        room = Room(Form(helper.PLAIN), (0, 0, 1))
        rows = [(2, 2, 3), (1, 0, 2), (0, 0, 1), (-1, 0, 2), (0, 0, 2), (0, 0, 1), (2, 1, 3)]
        told = [((0, 0, 1), (0, 2, 5)), ((0, 0, 2), (4,)), ((1, 0, 2), (1, 3)), ((2, 1, 3), (6,))]
        self.assertEqual(kin(room, rows), told)
        self.assertEqual(kin(room, []), [])
        self.assertEqual(kin(room, [(2, 2, 3)]), [((0, 0, 1), (0,))])
        self.assertEqual(kin(room, [(2, 2, 3)] * 3), [((0, 0, 1), (0, 1, 2))])

    def test_all_rows(self):
        for room in rooms():
            rows = helper.rows_inside(room.form.table, room.base, 3)[::3]
            rows = [v for v in rows if room.reach(v) <= 500]
            places = {}
            for place, v in enumerate(rows):
                places.setdefault(folded(room, v)[0], []).append(place)
            told = sorted((row, tuple(where)) for row, where in places.items())
            with self.subTest(table=room.form.table, base=room.base):
                self.assertEqual(kin(room, rows), told)

    def test_far_rows_of_closed_rooms(self):
        for table, base, _, _, _, _ in helper.CLOSED:
            room = Room(Form(table), base)
            rows = far_images(room, base, 12)
            with self.subTest(table=table, base=base):
                self.assertEqual(kin(room, rows), [(base, tuple(range(len(rows))))])
                self.assertEqual(kin(room, rows[::-1] + [base]), [(base, tuple(range(len(rows) + 1)))])

    def test_kinds_of_values(self):
        rows = [(2, 2, 3), (1, 0, 2)]
        answer = kin(Room(Form(helper.PLAIN), (0, 0, 1)), rows)
        self.assertIs(type(answer), list)
        for pair in answer:
            self.assertIs(type(pair), tuple)
            self.assertTrue(helper.is_plain_row(pair[0]))
            self.assertIs(type(pair[1]), tuple)
        self.assertEqual(rows, [(2, 2, 3), (1, 0, 2)])

    def test_the_first_error_is_raised(self):
        room = Room(Form(helper.ROOTLESS), (0, 0, 1))
        far, bad, good = (-16, 9, 8), (1, 0, 0), (0, 0, 1)
        for rows, error in (
            ([far], TooFar), ([bad], BadRow), ([good, far, bad], TooFar), ([good, bad, far], BadRow),
            ([far, bad], TooFar), ([bad, far], BadRow), ([good, good, far], TooFar), ([good, (0, 0, 0)], BadRow),
        ):
            with self.subTest(rows=rows):
                with self.assertRaises(error):
                    kin(room, rows)
        room = Room(Form(helper.PLAIN), (0, 0, 1))
        far = (1001, 0, 1002)
        self.assertGreater(room.reach(far), 500)
        self.assertEqual(kin(room, [far, good]), [(good, (1,)), (far, (0,))])
        with self.assertRaises(BadRow):
            kin(room, [far, bad])


class RootlessTest(unittest.TestCase):

    def test_nothing_is_folded(self):
        room = Room(Form(helper.ROOTLESS), (0, 0, 1))
        self.assertIs(is_closed(room, 500), False)
        rows = [v for v in helper.rows_inside(helper.ROOTLESS, (0, 0, 1), 5) if room.reach(v) <= 500]
        for v in rows:
            self.assertEqual(folded(room, v), (v, ()))
        self.assertEqual(kin(room, rows[:3]), sorted((v, (i,)) for i, v in enumerate(rows[:3])))
        self.assertIsNone(between(room, rows[0], rows[1]))
        self.assertEqual(between(room, rows[0], rows[0]), helper.IDENTITY)

    def test_a_base_that_is_not_inside_has_no_room(self):
        with self.assertRaises(BadBase):
            folded(Room(Form(helper.PLAIN), (1, 0, 1)), (0, 0, 1))
        self.assertEqual(roots_at(Form(helper.ROOTLESS), (0, 0, 1), 0), [])


if __name__ == "__main__":
    unittest.main()
