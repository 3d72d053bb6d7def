"""Promises 7.1 to 7.6: keepers of a form, and of a room."""

import itertools
import unittest

import helper
from coneroom.errors import BadBase, BadKeeper, BadMatrix, BadNumber, BadRow, TooFar
from coneroom.fold import word_matrix
from coneroom.form import Form
from coneroom.keepers import endless, keeps, moves, order_of, parts, symmetries
from coneroom.matrix import image, inverse_of, matrix_product
from coneroom.ring import is_closed
from coneroom.room import Room
from coneroom.roots import reflection
from coneroom.rowsat import rows_at

SWAP = ((0, 1, 0), (1, 0, 0), (0, 0, 1))
# A symmetry of the room (0, 0, 1) of the form without roots that has no order.
ENDLESS = ((1, -1, 2), (0, 3, -5), (0, -1, 2))
WRONG_HEIGHTS = [-1, 2001, -2000, 2002, 10 ** 21, -(10 ** 21), True, False]


def rooms():
    return [Room(Form(table), base) for table, base in helper.SMALL + helper.OPEN]


def negative_of(matrix):
    return tuple(helper.negative(row) for row in matrix)


def power(matrix, times):
    return helper.product_of_tables(*[matrix] * times)


def greatest_height(room):
    """Return the greatest height up to 2000 that is not too far for a room that does not close."""
    size = -room.form.norm(room.base)
    return max(h for h in range(2001) if h * h - size * size <= 500 * size)


def symmetries_by_search(room, height):
    """Return the ascending list of the forward keepers up to a height that keep a room."""
    table, base = room.form.table, room.base
    size = -room.form.norm(base)
    found = []
    for a in range(size, height + 1):
        for w in rows_at(room.form, base, -a, -size):
            if room.holds(w):
                found.extend(matrix for matrix in moves(room.form, base, w) if keeps_by_definition(room, matrix))
    return sorted(found)


def keeps_by_definition(room, matrix):
    """Return whether no wall up to the reach has a side above 0."""
    walls = room.walls(min(room.reach(image(matrix, room.base)), 500))
    return all(helper.side_by_definition(room.form.table, room.base, matrix, r) < 0 for r in walls)


class OrderTest(unittest.TestCase):

    def test_told_orders(self):
        for matrix, order in (
            (helper.IDENTITY, 1), (helper.MINUS_IDENTITY, 2), (SWAP, 2), (((0, 1, 0), (0, 0, 1), (1, 0, 0)), 3),
            (((0, -1, 0), (1, 0, 0), (0, 0, 1)), 4), (((0, -1, 0), (1, 1, 0), (0, 0, 1)), 6),
            (((0, -1, 0), (1, -1, 0), (0, 0, 1)), 3), (((0, -1, 0), (1, -1, 0), (0, 0, -1)), 6),
            (((0, -1, 0), (0, 0, -1), (-1, 0, 0)), 6), (((0, 1, 0), (-1, 0, 0), (0, 0, -1)), 4),
            (((1, 1, 0), (0, 1, 0), (0, 0, 1)), None), (((2, 1, 0), (1, 1, 0), (0, 0, 1)), None),
            (((-1, 1, 0), (0, -1, 0), (0, 0, 1)), None), (ENDLESS, None),
            (((1, 10 ** 21, 0), (0, 1, 0), (0, 0, 1)), None), (((1, 10 ** 21, 0), (0, -1, 0), (0, 0, 1)), 2),
        ):
            with self.subTest(matrix=matrix):
                self.assertEqual(order_of(matrix), order)

    def test_the_definition(self):
        found = {}
        for items in itertools.product((-1, 0, 1), repeat=9):
            matrix = (items[:3], items[3:6], items[6:])
            if sum(map(abs, items)) <= 5 and abs(helper.determinant_by_sum(matrix)) == 1:
                done = [k for k in range(1, 13) if power(matrix, k) == helper.IDENTITY]
                told = done[0] if done else None
                found[told] = found.get(told, 0) + 1
                self.assertEqual(order_of(matrix), told)
        self.assertEqual(set(found), {1, 2, 3, 4, 6, None})

    def test_reflections_have_the_order_two(self):
        for room in rooms():
            for wall in room.walls(500):
                self.assertEqual(order_of(reflection(room.form, wall)), 2)

    def test_other_determinants(self):
        for matrix in (
            ((0, 0, 0), (0, 0, 0), (0, 0, 0)), ((2, 0, 0), (0, 1, 0), (0, 0, 1)), ((1, 2, 3), (2, 4, 6), (0, 0, 1)),
            ((1, 1, 0), (1, -1, 0), (0, 0, 1)), ((-2, 0, 0), (0, 1, 0), (0, 0, 1)),
            ((10 ** 21, 0, 0), (0, 1, 0), (0, 0, 1)),
        ):
            with self.subTest(matrix=matrix):
                with self.assertRaises(BadMatrix):
                    order_of(matrix)


class MovesTest(unittest.TestCase):

    def test_told_tables(self):
        form = Form(helper.PLAIN)
        # The eight tables that keep the first two items of a row apart from the last one.
        told = moves(form, (0, 0, 1), (0, 0, 1))
        self.assertEqual(len(told), 8)
        for a, b in itertools.product((-1, 1), repeat=2):
            self.assertIn(((a, 0, 0), (0, b, 0), (0, 0, 1)), told)
            self.assertIn(((0, a, 0), (b, 0, 0), (0, 0, 1)), told)
        self.assertIn(reflection(form, (1, 1, 1)), moves(form, (0, 0, 1), (2, 2, 3)))
        self.assertEqual(moves(form, (0, 0, 1), (0, 0, 2)), [])
        # The same norm is not enough.
        self.assertEqual(moves(form, (0, 0, 2), (2, 1, 3)), [])

    def test_all_keepers_by_search(self):
        counts = set()
        for table, base in helper.SMALL:
            form = Form(table)
            for p in [base, helper.negative(base)]:
                norm = helper.product_by_sum(table, p, p)
                rows = [w for w in helper.rows_of_box(2) if helper.product_by_sum(table, w, w) == norm]
                for w in rows[:9] + [p, helper.negative(p)]:
                    told = helper.moves_by_search(table, p, w)
                    counts.add(len(told))
                    with self.subTest(table=table, p=p, w=w):
                        self.assertEqual(moves(form, p, w), told)
        self.assertLessEqual({0, 1, 2, 4, 8, 12}, counts)

    def test_the_words_of_the_document(self):
        for table, base in helper.SMALL + helper.OPEN:
            form = Form(table)
            norm = form.norm(base)
            rows = [w for w in helper.rows_of_box(4) if form.norm(w) == norm]
            for w in rows:
                for matrix in moves(form, base, w):
                    with self.subTest(table=table, base=base, w=w):
                        self.assertTrue(helper.is_plain_table(matrix))
                        self.assertTrue(helper.keeps_products(table, matrix))
                        self.assertEqual(helper.image_by_sum(matrix, base), w)

    def test_images_under_keepers(self):
        # As many keepers lead p to an image of p as lead it to itself.
        for room in rooms():
            told = moves(room.form, room.base, room.base)
            done = helper.IDENTITY
            for wall in room.walls(500) * 3:
                done = matrix_product(done, reflection(room.form, wall))
                w = image(done, room.base)
                with self.subTest(table=room.form.table, base=room.base, w=w):
                    self.assertEqual(moves(room.form, room.base, w), sorted(matrix_product(done, m) for m in told))
                    back = inverse_of(done)
                    self.assertEqual(moves(room.form, w, room.base), sorted(matrix_product(m, back) for m in told))

    def test_rows_of_other_norms(self):
        for table, base in helper.SMALL:
            double = tuple(2 * item for item in base)
            self.assertEqual(moves(Form(table), base, double), [])
            self.assertEqual(moves(Form(table), double, base), [])
            self.assertEqual(moves(Form(table), double, double), moves(Form(table), base, base))

    def test_wrong_rows(self):
        for table, good, others in (
            (helper.PLAIN, (0, 0, 1), [(0, 0, 0), (1, 0, 0), (1, 0, 1), (3, 4, 5), (2, 0, -1)]),
            (helper.ROOTLESS, (0, 0, 1), [(0, 0, 0), (1, 0, 0), (0, -1, 0)]),
        ):
            form = Form(table)
            for other in others:
                with self.subTest(table=table, other=other):
                    with self.assertRaises(BadRow):
                        moves(form, good, other)
                    with self.assertRaises(BadBase):
                        moves(form, other, good)
                    with self.assertRaises(BadBase):
                        moves(form, other, other)


class KeepsTest(unittest.TestCase):

    def test_told_tables(self):
        room = Room(Form(helper.PLAIN), (0, 0, 1))
        self.assertIs(keeps(room, helper.IDENTITY), True)
        self.assertIs(keeps(room, SWAP), False)
        for matrix in moves(room.form, (0, 0, 1), (0, 0, 1)):
            self.assertIs(keeps(room, matrix), matrix == helper.IDENTITY)
        room = Room(Form(helper.ROOTLESS), (0, 0, 1))
        for matrix in (ENDLESS, inverse_of(ENDLESS), helper.IDENTITY):
            self.assertIs(keeps(room, matrix), True)

    def test_reflections_do_not_keep_the_room(self):
        for room in rooms():
            for wall in room.walls(500):
                self.assertIs(keeps(room, reflection(room.form, wall)), False)

    def test_the_sides_of_all_roots(self):
        kept = 0
        for table, base in helper.SMALL:
            room = Room(Form(table), base)
            roots = helper.outward_roots_by_search(table, base, 9)
            norm = room.form.norm(base)
            for w in helper.rows_inside(table, base, 2):
                if room.form.norm(w) == norm and room.reach(w) <= 9:
                    for matrix in moves(room.form, base, w):
                        sides = [helper.side_by_definition(table, base, matrix, r) for r in roots]
                        kept += max(sides, default=-1) < 0
                        with self.subTest(table=table, base=base, matrix=matrix):
                            self.assertIs(keeps(room, matrix), max(sides, default=-1) < 0)
        self.assertGreater(kept, 20)

    def test_too_far(self):
        room = Room(Form(helper.ROOTLESS), (0, 0, 1))
        near, far = 0, 0
        for times in range(1, 12):
            matrix = power(ENDLESS, times)
            if room.reach(image(matrix, room.base)) <= 500:
                near += 1
                self.assertIs(keeps(room, matrix), True)
            else:
                far += 1
                with self.assertRaises(TooFar):
                    keeps(room, matrix)
        self.assertTrue(near and far)

    def test_walls_that_part_far_images(self):
        # That a wall has a side above 0 tells enough, however far the image is.
        table, base = helper.OPEN[4]
        room = Room(Form(table), base)
        self.assertIs(is_closed(room, 500), False)
        done, far = helper.IDENTITY, 0
        for wall in room.walls(500) * 5:
            done = matrix_product(done, reflection(room.form, wall))
            far += room.reach(image(done, base)) > 500
            self.assertIs(keeps(room, done), False)
        self.assertGreater(far, 5)

    def test_far_images_of_closed_rooms(self):
        room = Room(Form(helper.PLAIN), (0, 0, 1))
        done = helper.IDENTITY
        for wall in room.walls(500) * 10:
            done = matrix_product(done, reflection(room.form, wall))
            self.assertIs(keeps(room, done), False)
        self.assertGreater(room.reach(image(done, room.base)), 500)

    def test_tables_that_are_no_forward_keepers(self):
        for table, base, tables in (
            (helper.PLAIN, (0, 0, 1), [
                helper.MINUS_IDENTITY, ((1, 0, 0), (0, 1, 0), (0, 0, -1)), negative_of(SWAP), helper.TURNING[2],
                ((0, 0, 0), (0, 0, 0), (0, 0, 0)), ((2, 0, 0), (0, 2, 0), (0, 0, 2)), ((1, 0, 0), (0, 0, 1), (0, 1, 0)),
            ]),
            (helper.ROOTLESS, (0, 0, 1), [
                helper.MINUS_IDENTITY, negative_of(ENDLESS), SWAP, negative_of(power(ENDLESS, 40)), helper.TURNING[1],
            ]),
        ):
            room = Room(Form(table), base)
            for matrix in tables:
                with self.subTest(table=table, matrix=matrix):
                    with self.assertRaises(BadKeeper):
                        keeps(room, matrix)


class PartsTest(unittest.TestCase):

    def test_the_example(self):
        room = Room(Form(helper.PLAIN), (0, 0, 1))
        self.assertEqual(parts(room, SWAP), (1, ((-1, 1, 0),), helper.IDENTITY))
        self.assertEqual(parts(room, helper.IDENTITY), (1, (), helper.IDENTITY))
        self.assertEqual(parts(room, helper.MINUS_IDENTITY), (-1, (), helper.IDENTITY))
        self.assertEqual(parts(room, negative_of(SWAP)), (-1, ((-1, 1, 0),), helper.IDENTITY))
        turn = ((0, -1, 0), (1, 0, 0), (0, 0, 1))
        self.assertEqual(parts(room, turn), (1, ((-1, 1, 0), (0, -1, 0)), helper.IDENTITY))
        self.assertEqual(parts(room, inverse_of(turn)), (1, ((0, -1, 0), (-1, 1, 0)), helper.IDENTITY))

    def test_the_form_without_roots(self):
        room = Room(Form(helper.ROOTLESS), (0, 0, 1))
        self.assertEqual(parts(room, ENDLESS), (1, (), ENDLESS))
        self.assertEqual(parts(room, negative_of(ENDLESS)), (-1, (), ENDLESS))

    def test_the_product_of_the_parts(self):
        for room in rooms():
            form, base = room.form, room.base
            kept = [m for m in moves(form, base, base)] + [helper.IDENTITY]
            done = helper.IDENTITY
            for wall in room.walls(500)[:5] * 2:
                done = matrix_product(done, reflection(form, wall))
                for matrix in [matrix_product(done, m) for m in kept[:4]]:
                    try:
                        sign, word, symmetry = parts(room, matrix)
                    except TooFar:
                        self.assertIs(is_closed(room, 500), False)
                        continue
                    with self.subTest(table=form.table, base=base, matrix=matrix):
                        self.assertEqual(sign, 1)
                        self.assertTrue(all(wall in room.walls(500) for wall in word))
                        self.assertEqual(matrix_product(word_matrix(form, word), symmetry), matrix)
                        self.assertIs(keeps(room, symmetry), True)
                        self.assertEqual(parts(room, negative_of(matrix)), (-1, word, symmetry))

    def test_the_steps(self):
        for room in rooms():
            form, table, base = room.form, room.form.table, room.base
            walls = room.walls(500)
            for start in moves(form, base, base):
                matrix, told = start, []
                while True:
                    ahead = [r for r in walls if helper.side_by_definition(table, base, matrix, r) > 0]
                    if not ahead:
                        break
                    told.append(ahead[0])
                    matrix = matrix_product(helper.reflection_by_definition(table, ahead[0]), matrix)
                with self.subTest(table=table, base=base, start=start):
                    self.assertEqual(parts(room, start), (1, tuple(told), matrix))

    def test_there_are_no_other_parts(self):
        found = 0
        for room in rooms():
            form = room.form
            height = min(greatest_height(room), 60)
            kept = symmetries(room, height)
            for symmetry in kept[:4]:
                for size in (0, 1, 2, 3, 5):
                    # Roots of any kind, not only walls.
                    word = tuple(room.walls(500)[:size]) + tuple(reversed(room.walls(500)[:2]))
                    element = word_matrix(form, word)
                    matrix = matrix_product(element, symmetry)
                    for sign in (1, -1):
                        try:
                            answer = parts(room, matrix if sign > 0 else negative_of(matrix))
                        except TooFar:
                            self.assertIs(is_closed(room, 500), False)
                            continue
                        found += 1
                        with self.subTest(table=form.table, base=room.base, symmetry=symmetry, word=word):
                            self.assertEqual((answer[0], answer[2]), (sign, symmetry))
                            self.assertEqual(word_matrix(form, answer[1]), element)
        self.assertGreater(found, 300)

    def test_far_keepers_of_closed_rooms(self):
        for table, base, _, _, _, _ in helper.CLOSED:
            room = Room(Form(table), base)
            done = helper.IDENTITY
            for wall in room.walls(500) * 12:
                done = matrix_product(done, reflection(room.form, wall))
            self.assertGreater(room.reach(image(done, base)), 500)
            sign, word, symmetry = parts(room, negative_of(done))
            with self.subTest(table=table, base=base):
                self.assertEqual((sign, symmetry), (-1, helper.IDENTITY))
                self.assertEqual(word_matrix(room.form, word), done)

    def test_too_far(self):
        room = Room(Form(helper.ROOTLESS), (0, 0, 1))
        far = [power(ENDLESS, times) for times in (5, 6, 11, 40)]
        for matrix in far + [inverse_of(matrix) for matrix in far]:
            self.assertGreater(room.reach(image(matrix, room.base)), 500)
            for sign in (matrix, negative_of(matrix)):
                with self.subTest(matrix=sign):
                    with self.assertRaises(TooFar):
                        parts(room, sign)

    def test_too_far_at_a_step(self):
        # The third wall of this room has the depth 529: only the two walls through the base row are seen.
        room = Room(Form(helper.PLAIN), (0, 0, 23))
        seen, unseen = ((-1, 1, 0), (0, -1, 0)), (1, 1, 1)
        for word in ((unseen,), (unseen, seen[0]), seen[:1] + (unseen,), seen[1:] + (unseen,), seen + (unseen,) + seen):
            matrix = word_matrix(room.form, word)
            self.assertGreater(room.reach(image(matrix, room.base)), 500)
            for table in (matrix, negative_of(matrix)):
                with self.subTest(word=word):
                    with self.assertRaises(TooFar):
                        parts(room, table)
        for word in (seen, seen[:1], seen[::-1], seen + seen[:1]):
            self.assertEqual(parts(room, word_matrix(room.form, word)), (1, word, helper.IDENTITY))
        # A wall that is seen tells that the room is not kept; without one nothing is told.
        self.assertIs(keeps(room, word_matrix(room.form, seen + (unseen,))), False)
        with self.assertRaises(TooFar):
            keeps(room, word_matrix(room.form, (unseen,)))

    def test_steps_that_lead_back_from_afar(self):
        # This room does not close, but all walls that are needed are seen.
        table, base = helper.OPEN[4]
        room = Room(Form(table), base)
        self.assertIs(is_closed(room, 500), False)
        done, far = helper.IDENTITY, 0
        for wall in room.walls(500) * 5:
            done = matrix_product(done, reflection(room.form, wall))
            far += room.reach(image(done, base)) > 500
            sign, word, symmetry = parts(room, negative_of(done))
            with self.subTest(done=done):
                self.assertEqual((sign, symmetry), (-1, helper.IDENTITY))
                self.assertEqual(word_matrix(room.form, word), done)
        self.assertGreater(far, 5)

    def test_kinds_of_values(self):
        answer = parts(Room(Form(helper.PLAIN), (0, 0, 1)), SWAP)
        self.assertIs(type(answer), tuple)
        self.assertIs(type(answer[0]), int)
        self.assertIs(type(answer[1]), tuple)
        self.assertTrue(helper.is_plain_table(answer[2]))

    def test_tables_that_are_no_keepers(self):
        for table, base in ((helper.PLAIN, (0, 0, 1)), (helper.ROOTLESS, (0, 0, 1))):
            room = Room(Form(table), base)
            for matrix in (
                helper.TURNING[1], helper.TURNING[2], ((0, 0, 0), (0, 0, 0), (0, 0, 0)),
                ((2, 0, 0), (0, 2, 0), (0, 0, 2)), ((1, 0, 0), (0, 0, 1), (0, 1, 0)),
            ):
                with self.subTest(table=table, matrix=matrix):
                    with self.assertRaises(BadKeeper):
                        parts(room, matrix)


class SymmetriesTest(unittest.TestCase):

    def test_the_form_without_roots(self):
        room = Room(Form(helper.ROOTLESS), (0, 0, 1))
        self.assertEqual(symmetries(room, 22), [])
        self.assertEqual(symmetries(room, 23), [helper.IDENTITY])
        told = symmetries(room, 109)
        self.assertEqual(len(told), 7)
        self.assertIn(ENDLESS, told)
        self.assertIn(inverse_of(ENDLESS), told)
        for height in (110, 111, 2000):
            with self.assertRaises(TooFar):
                symmetries(room, height)

    def test_all_keepers_by_search(self):
        found = 0
        for room in rooms():
            for height in (0, 1, 3, 14, 30, 80):
                if height <= greatest_height(room):
                    told = symmetries_by_search(room, height)
                    found += len(told)
                    with self.subTest(table=room.form.table, base=room.base, height=height):
                        self.assertEqual(symmetries(room, height), told)
        self.assertGreater(found, 50)

    def test_heights(self):
        for room in rooms():
            most = greatest_height(room)
            rows = symmetries(room, most)
            for height in {0, 5, 20, most // 2, most - 1} - set(range(most, 2001)):
                told = [m for m in rows if -room.form.product(room.base, image(m, room.base)) <= height]
                with self.subTest(table=room.form.table, base=room.base, height=height):
                    self.assertEqual(symmetries(room, height), told)

    def test_closed_rooms_are_never_too_far(self):
        for table, base, _, _, _, members in helper.CLOSED:
            room = Room(Form(table), base)
            with self.subTest(table=table, base=base):
                self.assertEqual(len(symmetries(room, 2000)), members)
                self.assertIsNone(endless(room, 2000))
                self.assertIn(helper.IDENTITY, symmetries(room, 2000))
                self.assertEqual(symmetries(room, 0), [])

    def test_too_far(self):
        for table, base in helper.OPEN:
            room = Room(Form(table), base)
            most = greatest_height(room)
            for height in (most + 1, 2000):
                if most < height <= 2000:
                    with self.subTest(table=table, base=base, height=height):
                        with self.assertRaises(TooFar):
                            symmetries(room, height)
                        with self.assertRaises(TooFar):
                            endless(room, height)
            self.assertIn(helper.IDENTITY, symmetries(room, most))

    def test_the_symmetries_are_a_group(self):
        for room in rooms():
            most = greatest_height(room)
            kept = symmetries(room, most)
            for first, second in itertools.product(kept[:6], repeat=2):
                matrix = matrix_product(first, second)
                if -room.form.product(room.base, image(matrix, room.base)) <= most:
                    self.assertIn(matrix, kept)
            for matrix in kept:
                with self.subTest(table=room.form.table, base=room.base, matrix=matrix):
                    # The inverse leads p as far as the table does.
                    self.assertIn(inverse_of(matrix), kept)
                    self.assertIs(keeps(room, matrix), True)
                    self.assertTrue(helper.keeps_products(room.form.table, matrix))
                    self.assertLess(room.form.product(room.base, image(matrix, room.base)), 0)

    def test_kinds_of_values(self):
        answer = symmetries(Room(Form(helper.ROOTLESS), (0, 0, 1)), 109)
        self.assertIs(type(answer), list)
        self.assertEqual(answer, sorted(set(answer)))
        self.assertTrue(all(helper.is_plain_table(matrix) for matrix in answer))

    def test_other_heights(self):
        for room in (Room(Form(helper.PLAIN), (0, 0, 1)), Room(Form(helper.ROOTLESS), (0, 0, 1))):
            for height in WRONG_HEIGHTS:
                for action in (symmetries, endless):
                    with self.subTest(table=room.form.table, height=height, action=action.__name__):
                        with self.assertRaises(BadNumber):
                            action(room, height)


class EndlessTest(unittest.TestCase):

    def test_the_form_without_roots(self):
        room = Room(Form(helper.ROOTLESS), (0, 0, 1))
        self.assertEqual(endless(room, 58), ENDLESS)
        self.assertEqual(endless(room, 109), ENDLESS)
        for height in (0, 22, 23, 57):
            self.assertIsNone(endless(room, height))
        self.assertEqual(-room.form.product(room.base, image(ENDLESS, room.base)), 58)

    def test_the_least_one(self):
        found = 0
        # Some of these rooms have symmetries of the order two, too.
        for table, base in helper.SMALL + helper.OPEN + [(((1, 0, 0), (0, 3, 0), (0, 0, -47)), (0, 0, 1))]:
            room = Room(Form(table), base)
            most = greatest_height(room)
            for height in {0, 30, 58, 80, most} - set(range(most + 1, 2001)):
                pairs = [(-room.form.product(base, image(m, base)), m) for m in symmetries(room, height)]
                pairs = [pair for pair in pairs if order_of(pair[1]) is None]
                found += len(pairs) > 1
                with self.subTest(table=table, base=base, height=height):
                    self.assertEqual(endless(room, height), min(pairs)[1] if pairs else None)
        self.assertGreater(found, 2)


if __name__ == "__main__":
    unittest.main()
