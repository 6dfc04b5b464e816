import copy
import unittest

from stepfield.errors import BadStep, BadWidth, FieldError, TooMany
from stepfield.fields import Field

FAR = 10 ** 15
WIDTHS = (1, 2, 3, 4)
NUMBERS = (0, 1, -1, 7, -12, FAR, -FAR, FAR - 1, 1 - FAR)
BAD_WIDTHS = (0, 5, 6, 12, 99, -1, -2, -4, FAR, -FAR, 10 ** 5000, -(10 ** 5000))


def made_steps(width, many, shift=0):
    return [
        [NUMBERS[(shift + width * row + column) % len(NUMBERS)] for column in range(width)]
        for row in range(many)
    ]


class FieldTest(unittest.TestCase):
    def check(self, field, width, steps):
        self.assertIs(type(field.width), int)
        self.assertEqual(field.width, width)
        self.assertIs(type(field.steps), list)
        self.assertEqual(field.steps, [tuple(step) for step in steps])
        for step in field.steps:
            self.assertIs(type(step), tuple)
            for number in step:
                self.assertIs(type(number), int)

    def test_each_width_with_none_to_six_steps(self):
        for width in WIDTHS:
            for many in range(7):
                for shift in range(len(NUMBERS)):
                    steps = made_steps(width, many, shift)
                    with self.subTest(width=width, steps=steps):
                        self.check(Field(width, steps), width, steps)
                        self.check(Field(width, [tuple(step) for step in steps]), width, steps)

    def test_lists_and_tuples_beside_each_other(self):
        steps = [[1, 2], (3, 4), [5, 6], (0, 0)]
        self.check(Field(2, steps), 2, steps)

    def test_steps_are_kept_in_order_also_when_alike_or_noughts(self):
        steps = [[3, 1], [0, 0], [-3, -1], [3, 1], [0, 0], [1, 3]]
        self.check(Field(2, steps), 2, steps)

    def test_numbers_somewhat_beyond_are_not_refused(self):
        steps = [[FAR + 1, -FAR - 1], [10 ** 18, -(10 ** 18)]]
        self.check(Field(2, steps), 2, steps)

    def test_what_is_handed_in_stays_as_it_was(self):
        steps = [[1, 2, 3], (4, 5, 6), [-7, 0, FAR]]
        rows = list(steps)
        before = copy.deepcopy(steps)
        Field(3, steps)
        self.assertEqual(steps, before)
        for row, same in zip(steps, rows):
            self.assertIs(row, same)

    def test_what_is_handed_in_stays_as_it_was_when_refused(self):
        for width, steps in ((0, [[1]]), (1, [[1]] * 7), (2, [[1, 2], [3]])):
            before = copy.deepcopy(steps)
            with self.assertRaises(FieldError):
                Field(width, steps)
            self.assertEqual(steps, before)

    def test_a_later_change_does_not_reach_the_field(self):
        steps = [[1, 2], [3, 4], (5, 6)]
        field = Field(2, steps)
        steps[0][0] = 99
        steps[1].append(100)
        steps.append([7, 8])
        steps[2] = (0, 0)
        self.check(field, 2, [(1, 2), (3, 4), (5, 6)])
        steps.clear()
        self.check(field, 2, [(1, 2), (3, 4), (5, 6)])

    def test_no_two_fields_share_a_list(self):
        steps = [(1, 2), (3, 4)]
        one = Field(2, steps)
        other = Field(2, steps)
        third = Field(one.width, one.steps)
        self.assertIsNot(one.steps, steps)
        self.assertIsNot(one.steps, other.steps)
        self.assertIsNot(one.steps, third.steps)
        one.steps.append((5, 6))
        self.check(other, 2, [(1, 2), (3, 4)])
        self.check(third, 2, [(1, 2), (3, 4)])
        self.assertIsNot(Field(1, []).steps, Field(1, []).steps)

    def test_an_answer_does_not_hang_on_an_earlier_field(self):
        Field(4, made_steps(4, 6))
        self.check(Field(1, [[2]]), 1, [[2]])
        with self.assertRaises(BadStep):
            Field(4, [[1]])
        self.check(Field(1, [[2]]), 1, [[2]])


class RefusalTest(unittest.TestCase):
    def check(self, refusal, width, steps):
        for time in (1, 2):
            with self.subTest(width=repr(width % 10 ** 20), steps=steps, time=time):
                with self.assertRaises(FieldError) as caught:
                    Field(width, steps)
                self.assertIs(type(caught.exception), refusal)

    def test_bad_widths(self):
        for width in BAD_WIDTHS:
            self.check(BadWidth, width, [])
            self.check(BadWidth, width, [(), ()])
            self.check(BadWidth, width, [[1]])
            if 0 <= width < 100:
                self.check(BadWidth, width, made_steps(width, 6))

    def test_too_many_steps(self):
        for width in WIDTHS:
            for many in (7, 8, 20):
                self.check(TooMany, width, made_steps(width, many))
                self.check(TooMany, width, [(0,) * width] * many)

    def test_bad_steps_at_any_place(self):
        for width in WIDTHS:
            for many in range(1, 7):
                for place in range(many):
                    for length in (0, width - 1, width + 1, width + 2, 9):
                        for kind in (list, tuple):
                            steps = made_steps(width, many)
                            steps[place] = kind([1] * length)
                            self.check(BadStep, width, steps)

    def test_width_is_due_ahead_of_all(self):
        for width in BAD_WIDTHS:
            for many in (7, 8):
                self.check(BadWidth, width, [[1, 2]] * many)
                self.check(BadWidth, width, [[1, 2]] * many + [[]])
                self.check(BadWidth, width, [[]] + [[1] * 5] * many)
            if 0 <= width < 100:
                self.check(BadWidth, width, made_steps(width, 7))
                self.check(BadWidth, width, made_steps(width, 2) + [[1, 2]])

    def test_many_steps_are_due_ahead_of_bad_ones(self):
        for width in WIDTHS:
            for many in (7, 8):
                for place in range(many):
                    for length in (0, width - 1, width + 1):
                        steps = made_steps(width, many)
                        steps[place] = [1] * length
                        self.check(TooMany, width, steps)


if __name__ == "__main__":
    unittest.main()
