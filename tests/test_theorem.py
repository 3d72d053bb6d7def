"""Promise 0.1: what holds for all parts together, over many forms and bases."""

import itertools
import math
import unittest

import helper
from coneroom.alike import group
from coneroom.errors import BadForm, NoBase
from coneroom.fold import between, folded, word_matrix
from coneroom.form import Form
from coneroom.images import folded_closed, images
from coneroom.keepers import endless, keeps, moves, parts, symmetries
from coneroom.matrix import image, matrix_product
from coneroom.ring import Closed, is_closed, lies_in, rim_rows
from coneroom.room import Room
from coneroom.roots import reflection
from coneroom.rowsat import base_of
from coneroom.solutions import all_rows, rim_images, solutions
from coneroom.verdict import verdict


def some_forms():
    """Return forms with small items, every so many of all there are."""
    forms = []
    for table in itertools.islice(helper.small_symmetric_tables(2), 0, None, 211):
        try:
            forms.append(Form(table))
        except BadForm:
            pass
    return forms


def some_rooms():
    """Return rooms of some forms: of the first base row, and of a later row inside."""
    rooms = []
    for form in some_forms():
        try:
            p = base_of(form)
        except NoBase:
            continue
        others = [row for row in helper.rows_of_box(2) if form.norm(row) < 0]
        rooms.extend([Room(form, p), Room(form, others[len(others) // 3])])
    return rooms + [Room(Form(table), base) for table, base in helper.SMALL + helper.OPEN]


def greatest_height(room):
    size = -room.form.norm(room.base)
    return max(h for h in range(2001) if h * h - size * size <= 500 * size)


def forward_keepers(room):
    """Return forward keepers of the form: those that keep the base row, and some products with reflections."""
    keepers = moves(room.form, room.base, room.base) + symmetries(room, min(greatest_height(room), 100))[:4]
    done = helper.IDENTITY
    for wall in room.walls(500)[:4]:
        done = matrix_product(done, reflection(room.form, wall))
        keepers = keepers + [matrix_product(done, keepers[0])]
    return keepers


class TheoremTest(unittest.TestCase):

    @classmethod
    def setUpClass(cls):
        cls.rooms = some_rooms()
        cls.closed = [Closed(room, 500) for room in cls.rooms if is_closed(room, 500)]

    def test_there_are_rooms_of_both_kinds(self):
        self.assertGreater(len(self.closed), 50)
        self.assertGreater(len(self.rooms) - len(self.closed), 10)

    def test_never_both(self):
        seen = set()
        for room in self.rooms:
            keeper = endless(room, greatest_height(room))
            told = verdict(room, 500, greatest_height(room))
            seen.add(told[0])
            with self.subTest(table=room.form.table, base=room.base):
                self.assertFalse(is_closed(room, 500) and keeper is not None)
                self.assertEqual(told[0] == "closed", is_closed(room, 500))
                self.assertEqual(told[0] == "endless", keeper is not None)
        self.assertEqual(seen, {"closed", "endless", "open"})

    def test_a_ring_stays_the_same_at_greater_bounds(self):
        for closed in self.closed:
            walls = closed.room.walls(500)
            for bound in (1, 5, 25, 125):
                if is_closed(closed.room, bound):
                    self.assertEqual(closed.room.walls(bound), walls)

    def test_each_row_is_led_to_one_row_of_the_room(self):
        for closed in self.closed:
            room = closed.room
            for v in helper.rows_inside(room.form.table, room.base, 2):
                row, word = folded(room, v)
                with self.subTest(table=room.form.table, base=room.base, v=v):
                    self.assertEqual((row, word), folded_closed(closed, v))
                    self.assertIs(lies_in(closed, row), True)
                    self.assertIs(room.holds(row), True)
                    self.assertEqual(image(between(room, row, v), row), v)
                    self.assertEqual(len([w for w in images(closed, row, 20) if w == row]),
                                     int(-room.form.product(row, room.base) <= 20))

    def test_two_rows_of_the_room_are_not_led_to_each_other(self):
        for closed in self.closed:
            for k in (1, 2, 4, 7, 36):
                for v, w in itertools.combinations(solutions(closed, k)[:6], 2):
                    self.assertIsNone(between(closed.room, v, w))
                    self.assertNotIn(w, images(closed, v, 300))

    def test_all_rows_of_one_norm_are_images(self):
        for closed in self.closed:
            form, base = closed.room.form, closed.room.base
            for k in (1, 2, 3, 4, 5, 30):
                rows = solutions(closed, k)
                lists = [images(closed, row, 40) for row in rows]
                with self.subTest(table=form.table, base=base, k=k):
                    self.assertEqual(sorted(sum(lists, [])), all_rows(form, base, k, 40))

    def test_all_rows_on_the_rim_are_images(self):
        for closed in self.closed:
            table, base = closed.room.form.table, closed.room.base
            rows = [row for row in helper.rows_of_norm(table, base, 0, 9) if math.gcd(*row) == 1]
            with self.subTest(table=table, base=base):
                self.assertEqual(rim_images(closed, 9), rows)
                self.assertEqual(sorted({folded_closed(closed, row)[0] for row in rows} - set(rim_rows(closed))), [])

    def test_each_keeper_is_a_product_in_one_way(self):
        for closed in self.closed:
            room, members = closed.room, group(closed)
            for matrix in forward_keepers(room):
                for sign, keeper in ((1, matrix), (-1, tuple(helper.negative(row) for row in matrix))):
                    answer = parts(room, keeper)
                    with self.subTest(table=room.form.table, base=room.base, keeper=keeper):
                        self.assertEqual(answer[0], sign)
                        self.assertIn(answer[2], members)
                        self.assertIs(keeps(room, answer[2]), True)
                        self.assertEqual(matrix_product(word_matrix(room.form, answer[1]), answer[2]), matrix)
                # Another symmetry would leave something that is no element of a word: it moves the room.
                found = [m for m in members if self.is_element(closed, matrix, m)]
                self.assertEqual(found, [parts(room, matrix)[2]])

    def is_element(self, closed, matrix, member):
        """Return whether a keeper is an element of a word times a symmetry."""
        sign, _, rest = parts(closed.room, matrix_product(matrix, power_back(member)))
        return sign == 1 and rest == helper.IDENTITY

    def test_endless_symmetries_keep_the_room_with_all_walls(self):
        found = 0
        for room in self.rooms:
            keeper = endless(room, greatest_height(room))
            if keeper is not None:
                found += 1
                walls = room.walls(500)
                near = [r for r in walls if self.depth_is_at_most(room, image(keeper, r), 400)]
                with self.subTest(table=room.form.table, base=room.base):
                    self.assertIs(keeps(room, keeper), True)
                    self.assertTrue(all(image(keeper, r) in walls for r in near))
        self.assertGreater(found, 3)

    def depth_is_at_most(self, room, r, bound):
        return room.form.product(r, room.base) ** 2 <= bound * room.form.norm(r)


def power_back(matrix):
    """Return the inverse of a table of finite order."""
    done = matrix
    while helper.product_of_tables(done, matrix) != helper.IDENTITY:
        done = helper.product_of_tables(done, matrix)
    return done


if __name__ == "__main__":
    unittest.main()
