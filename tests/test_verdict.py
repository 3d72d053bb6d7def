"""Promises 7.7, 7.11 and 7.12: verdicts on rooms and on texts."""

import unittest

import helper
from coneroom.alike import group
from coneroom.errors import BadNumber, BadText, NoBase, TooFar
from coneroom.form import Form
from coneroom.formtext import form_of, text_of
from coneroom.keepers import endless
from coneroom.matrix import image, inverse_of
from coneroom.ring import Closed, is_closed, rim_rows
from coneroom.room import Room
from coneroom.rowsat import base_of
from coneroom.verdict import answer, verdict

PLAIN_TEXT = "form 1 0 0 1 0 -1\n"
FLAT_TEXT = "form 1 0 0 1 0 -3\n"
ROOTLESS_TEXT = "form 3 1 -1 5 2 -23\n"
# No row inside has items from -30 to 30.
BASELESS_TEXT = "form 38 -126 -153 987 681 669\n"
BAD_TEXTS = ["", "form", "form 1 0 0 1 0 -3", "form 1 0 0 1 0 3\n", "Form 1 0 0 1 0 -3\n", "form 1 0 0 1 0 -1001\n"]
WRONG_BOUNDS = [-1, 501, 10 ** 21, True, False]
WRONG_HEIGHTS = [-1, 2001, 10 ** 21, True, False]
ENDLESS = ((1, -1, 2), (0, 3, -5), (0, -1, 2))


def rooms():
    return [Room(Form(table), base) for table, base in helper.SMALL + helper.OPEN]


def greatest_height(room):
    """Return the greatest height up to 2000 that is not too far for a room that does not close."""
    size = -room.form.norm(room.base)
    return max(h for h in range(2001) if h * h - size * size <= 500 * size)


class VerdictTest(unittest.TestCase):

    def test_closed_rooms(self):
        for table, base, least, angles, _, _ in helper.CLOSED:
            room = Room(Form(table), base)
            for bound in (least, 500):
                for height in (0, 1, 300, 2000):
                    with self.subTest(table=table, base=base, bound=bound, height=height):
                        self.assertEqual(verdict(room, bound, height), ("closed", len(angles)))

    def test_rooms_that_close_later(self):
        # They have no symmetry without an order, and no height is too far for them.
        for table, base, least, _, _, _ in helper.CLOSED:
            room = Room(Form(table), base)
            for bound in {0, least - 1}:
                for height in (0, 30, 2000):
                    with self.subTest(table=table, base=base, bound=bound, height=height):
                        self.assertEqual(verdict(room, bound, height), ("open",))

    def test_endless_rooms(self):
        room = Room(Form(helper.ROOTLESS), (0, 0, 1))
        for bound in (0, 250, 500):
            for height in (58, 100, 109):
                self.assertEqual(verdict(room, bound, height), ("endless", ENDLESS))
            for height in (0, 22, 23, 57):
                self.assertEqual(verdict(room, bound, height), ("open",))

    def test_the_words_of_the_document(self):
        kinds = set()
        for room in rooms():
            most = greatest_height(room)
            for bound in (0, 2, 500):
                for height in (0, most // 2, most):
                    if is_closed(room, bound):
                        told = ("closed", len(room.walls(bound)))
                    else:
                        keeper = endless(room, height)
                        told = ("open",) if keeper is None else ("endless", keeper)
                    kinds.add(told[0])
                    with self.subTest(table=room.form.table, base=room.base, bound=bound, height=height):
                        self.assertEqual(verdict(room, bound, height), told)
        self.assertEqual(kinds, {"closed", "endless", "open"})

    def test_too_far(self):
        room = Room(Form(helper.ROOTLESS), (0, 0, 1))
        for bound in (0, 500):
            for height in (110, 2000):
                with self.assertRaises(TooFar):
                    verdict(room, bound, height)
        # This room closes just beyond the bounds.
        room = Room(Form(helper.PLAIN), (0, 0, 23))
        self.assertEqual(verdict(room, 500, greatest_height(room)), ("open",))
        with self.assertRaises(TooFar):
            verdict(room, 500, greatest_height(room) + 1)

    def test_kinds_of_values(self):
        room, other = Room(Form(helper.PLAIN), (0, 0, 1)), Room(Form(helper.ROOTLESS), (0, 0, 1))
        for told in (verdict(room, 1, 0), verdict(room, 0, 0), verdict(other, 0, 58)):
            self.assertIs(type(told), tuple)
            self.assertIs(type(told[0]), str)
        self.assertIs(type(verdict(room, 1, 0)[1]), int)
        self.assertTrue(helper.is_plain_table(verdict(other, 0, 58)[1]))

    def test_wrong_numbers(self):
        for table in (helper.PLAIN, helper.ROOTLESS):
            room = Room(Form(table), (0, 0, 1))
            for bound in WRONG_BOUNDS:
                for height in (0, 2000, -1, True):
                    with self.subTest(table=table, bound=bound, height=height):
                        with self.assertRaises(BadNumber):
                            verdict(room, bound, height)
            for height in WRONG_HEIGHTS:
                for bound in (0, 1, 500):
                    # The first room is closed at 1 and at 500.
                    with self.subTest(table=table, bound=bound, height=height):
                        with self.assertRaises(BadNumber):
                            verdict(room, bound, height)


class AnswerTest(unittest.TestCase):

    def test_the_example(self):
        self.assertEqual(answer(PLAIN_TEXT, 5, 5), ("closed", 3, (1, 4), 1, 1))

    def test_told_answers(self):
        for text, bound, height, told in (
            (PLAIN_TEXT, 0, 5, ("open",)), (FLAT_TEXT, 2, 0, ("closed", 3, (1, 12), 1, 0)),
            (FLAT_TEXT, 500, 2000, ("closed", 3, (1, 12), 1, 0)), (FLAT_TEXT, 1, 2000, ("open",)),
            (ROOTLESS_TEXT, 500, 58, ("endless", 58)), (ROOTLESS_TEXT, 0, 109, ("endless", 58)),
            (ROOTLESS_TEXT, 500, 57, ("open",)), ("form 1 0 0 5 0 -2\n", 80, 0, ("closed", 6, (1, 1), 2, 0)),
            ("form 4 -1 0 3 -3 1\n", 500, 1, ("closed", 12, (15, 2), 2, 6)),
            ("form 3 0 0 6 0 -27\n", 338, 0, ("closed", 5, (3, 2), 1, 2)),
            ("form 3 0 0 6 0 -27\n", 337, 0, ("open",)),
        ):
            with self.subTest(text=text, bound=bound, height=height):
                self.assertEqual(answer(text, bound, height), told)

    def test_the_words_of_the_document(self):
        kinds = set()
        for table, _ in helper.SMALL + helper.OPEN:
            form = Form(table)
            base = base_of(form)
            room = Room(form, base)
            for bound, height in ((0, 0), (500, greatest_height(room)), (7, 22)):
                told = verdict(room, bound, height)
                kinds.add(told[0])
                if told[0] == "closed":
                    closed = Closed(room, bound)
                    told += (closed.area, len(group(closed)), len(rim_rows(closed)))
                elif told[0] == "endless":
                    told = ("endless", -form.product(base, image(told[1], base)))
                with self.subTest(table=table, bound=bound, height=height):
                    self.assertEqual(answer(text_of(form), bound, height), told)
        self.assertEqual(kinds, {"closed", "endless", "open"})

    def test_moved_forms_have_the_same_numbers(self):
        for table, _, _, angles, area, members in helper.CLOSED:
            for matrix in helper.TURNING[:3]:
                form = Form(table).moved(matrix)
                room = Room(form, base_of(form))
                if is_closed(room, 500):
                    told = ("closed", len(angles), area, members, angles.count(0))
                    with self.subTest(table=table, matrix=matrix):
                        self.assertEqual(answer(text_of(form), 500, 0), told)
                self.assertEqual(form.moved(inverse_of(matrix)).table, table)

    def test_bad_texts(self):
        for text in BAD_TEXTS:
            for bound, height in ((5, 5), (-1, 5), (5, -1), (True, 2001)):
                with self.subTest(text=text, bound=bound, height=height):
                    with self.assertRaises(BadText):
                        answer(text, bound, height)

    def test_no_base(self):
        for bound, height in ((5, 5), (-1, 5), (5, -1), (True, 2001), (500, 2000)):
            with self.subTest(bound=bound, height=height):
                with self.assertRaises(NoBase):
                    answer(BASELESS_TEXT, bound, height)
        with self.assertRaises(NoBase):
            base_of(form_of(BASELESS_TEXT))

    def test_wrong_numbers(self):
        for text in (PLAIN_TEXT, ROOTLESS_TEXT):
            for bound in WRONG_BOUNDS:
                for height in (0, 2000):
                    with self.assertRaises(BadNumber):
                        answer(text, bound, height)
            for height in WRONG_HEIGHTS:
                for bound in (0, 500):
                    with self.subTest(text=text, bound=bound, height=height):
                        with self.assertRaises(BadNumber):
                            answer(text, bound, height)

    def test_too_far(self):
        for height in (110, 2000):
            with self.assertRaises(TooFar):
                answer(ROOTLESS_TEXT, 500, height)
        self.assertEqual(answer(PLAIN_TEXT, 0, 2000), ("open",))


if __name__ == "__main__":
    unittest.main()
