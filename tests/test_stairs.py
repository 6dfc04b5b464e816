import math
import unittest

from making import (
    FAR, Kept, check_same_points, check_stair_form, is_left_as_nothing, made_fields, made_of, plus,
)
from stepfield.fields import Field
from stepfield.reaching import reach
from stepfield.stairs import stairs

# Worked out by hand.
KNOWN = (
    (1, [], []),
    (1, [(0,)], []),
    (1, [(0,), (0,)], []),
    (1, [(6,), (4,)], [(2,)]),
    (1, [(-6,)], [(6,)]),
    (1, [(0,), (-15,), (10,), (0,), (6,)], [(1,)]),
    (2, [], []),
    (2, [(0, 0)], []),
    (2, [(2, 0), (1, -3)], [(1, 3), (0, 6)]),
    (2, [(0, -5)], [(0, 5)]),
    (2, [(-4, 6)], [(4, -6)]),
    (2, [(4, 6), (6, 9)], [(2, 3)]),
    (2, [(4, -6), (-6, 9)], [(2, -3)]),
    (2, [(3, 7), (0, 2)], [(3, 1), (0, 2)]),
    (2, [(3, -7), (0, 2)], [(3, 1), (0, 2)]),
    (2, [(3, 4), (0, 2)], [(3, 0), (0, 2)]),
    (3, [(1, 2, 3), (4, 5, 6), (7, 8, 9)], [(1, 2, 3), (0, 3, 6)]),
    (3, [(0, 0, 4), (0, 2, 1), (0, 0, 6)], [(0, 2, 1), (0, 0, 2)]),
    (3, [(1, -1, -1), (0, 0, 3)], [(1, -1, 2), (0, 0, 3)]),
    (4, [(0, 0, 0, -FAR)], [(0, 0, 0, FAR)]),
    (4, [(1, 1, 1, 1), (0, 2, 2, 2), (0, 0, 2, 2), (0, 0, 0, 2)],
     [(1, 1, 1, 1), (0, 2, 0, 0), (0, 0, 2, 0), (0, 0, 0, 2)]),
    (4, [(2, 0, 0, 0), (0, 2, 0, 0), (0, 0, 2, 0), (0, 0, 0, 2), (1, 1, 1, 1), (-1, 1, -1, 1)],
     [(1, 1, 1, 1), (0, 2, 0, 0), (0, 0, 2, 0), (0, 0, 0, 2)]),
)


class StairsTest(unittest.TestCase):
    def test_known_stair_forms(self):
        for width, steps, rows in KNOWN:
            with self.subTest(width=width, steps=steps):
                self.assertEqual(stairs(Field(width, steps)), rows)
                self.assertEqual(stairs(Field(width, [list(step) for step in steps])), rows)

    def test_form_and_points(self):
        for _, field in made_fields(1, times=3):
            with self.subTest(width=field.width, steps=field.steps):
                kept = Kept(field)
                rows = stairs(field)
                check_stair_form(self, rows, field.width)
                check_same_points(self, rows, field.steps)
                kept.check(self)
                self.assertEqual(stairs(field), rows)
                kept.check(self)

    def test_each_row_is_a_point_of_the_field(self):
        for _, field in made_fields(2):
            with self.subTest(width=field.width, steps=field.steps):
                for row in stairs(field):
                    answer = reach(field, row)
                    self.assertEqual(answer[0], "yes")
                    self.assertEqual(made_of(field.width, answer[1], field.steps), row)

    def test_points_of_the_field_are_left_as_nothing(self):
        for numbers, field in made_fields(3):
            with self.subTest(width=field.width, steps=field.steps):
                rows = stairs(field)
                for _ in range(5):
                    point = made_of(field.width, [numbers.within(100) for _ in field.steps], field.steps)
                    self.assertTrue(is_left_as_nothing(rows, point))

    def test_width_one(self):
        for _, field in made_fields(4, widths=(1,), times=10):
            with self.subTest(steps=field.steps):
                greatest = math.gcd(*(step[0] for step in field.steps))
                self.assertEqual(stairs(field), [(greatest,)] if greatest else [])


class SameFieldTest(unittest.TestCase):
    """Steps changed so that the points stay: the stair form stays."""

    def check(self, field, steps):
        self.assertEqual(stairs(Field(field.width, steps)), stairs(field))

    def test_the_steps_turned_round(self):
        for numbers, field in made_fields(5):
            with self.subTest(width=field.width, steps=field.steps):
                self.check(field, field.steps[::-1])
                place = numbers.below(len(field.steps) + 1)
                self.check(field, field.steps[place:] + field.steps[:place])

    def test_one_with_its_signs_turned(self):
        for _, field in made_fields(6):
            with self.subTest(width=field.width, steps=field.steps):
                for index in range(len(field.steps)):
                    steps = list(field.steps)
                    steps[index] = tuple(-number for number in steps[index])
                    self.check(field, steps)

    def test_one_with_another_put_to_it(self):
        for numbers, field in made_fields(7, bounds=(2, 12, 10 ** 6, 10 ** 12)):
            if len(field.steps) < 2:
                continue
            with self.subTest(width=field.width, steps=field.steps):
                steps = list(field.steps)
                for _ in range(3):
                    index = numbers.below(len(steps))
                    other = (index + 1 + numbers.below(len(steps) - 1)) % len(steps)
                    steps[index] = plus(steps[index], numbers.within(9), steps[other])
                    self.check(field, steps)

    def test_one_put_in_once_more_and_noughts_put_in(self):
        for numbers, field in made_fields(8):
            if len(field.steps) == 6:
                continue
            with self.subTest(width=field.width, steps=field.steps):
                place = numbers.below(len(field.steps) + 1)
                noughts = (0,) * field.width
                self.check(field, field.steps[:place] + [noughts] + field.steps[place:])
                for step in field.steps:
                    self.check(field, field.steps[:place] + [step] + field.steps[place:])

    def test_the_field_of_the_stair_rows(self):
        for _, field in made_fields(9):
            with self.subTest(width=field.width, steps=field.steps):
                self.check(field, stairs(field))
                self.check(field, stairs(field)[::-1])

    def test_numbers_somewhat_beyond(self):
        field = Field(2, [(10 ** 40, 10 ** 40 + 1), (10 ** 40 + 1, 10 ** 40 + 3)])
        rows = stairs(field)
        check_stair_form(self, rows, 2)
        check_same_points(self, rows, field.steps)


if __name__ == "__main__":
    unittest.main()
