import math
import unittest

from making import (
    BOUNDS, FAR, Kept, Numbers, check_same_points, check_stair_form, is_left_as_nothing, made_fields, made_of,
    made_steps, plus, small_part,
)
from stepfield.errors import FieldError, Unlike
from stepfield.fields import Field
from stepfield.reaching import reach
from stepfield.short import room
from stepfield.stairs import common, is_same, stairs, together

WIDTHS = (1, 2, 3, 4)


def is_point(field, point):
    return reach(field, point)[0] == "yes"


def times(many, step):
    return tuple(many * number for number in step)


def pairs(seed, repeats=1):
    """Two fields of one width: apart from each other, sharing steps, one within the other, the same."""
    for width in WIDTHS:
        for bound in BOUNDS:
            for sort in range(6):
                for time in range(repeats):
                    numbers = Numbers(seed * 10 ** 6 + width * 10 ** 5 + BOUNDS.index(bound) * 1000 + sort * 100 + time)
                    one = made_steps(numbers, width, numbers.below(7), bound)
                    yield numbers, Field(width, one), Field(width, other_steps(numbers, width, one, bound, sort))


def other_steps(numbers, width, one, bound, sort):
    if sort == 0:
        return made_steps(numbers, width, numbers.below(7), bound)
    if sort == 1:
        return [times(numbers.pick((2, 3, -1)), step) for step in one[:3]] + made_steps(numbers, width, 2, bound)
    if sort == 2:
        return [made_of(width, [numbers.within(3) for _ in one], one) for _ in range(numbers.below(7))]
    if sort == 3:
        return one[::-1]
    if sort == 4:
        return [plus(step, numbers.within(2), one[0]) if index else step for index, step in enumerate(one)]
    return [times(numbers.pick((1, 1, 2)), step) for step in one]


class UnlikeTest(unittest.TestCase):
    def test_unlike_widths(self):
        for width in WIDTHS:
            for wide in WIDTHS:
                if width == wide:
                    continue
                for many in (0, 1, 3, 6):
                    numbers = Numbers(width * 100 + wide * 10 + many)
                    one = Field(width, made_steps(numbers, width, many, 9))
                    other = Field(wide, made_steps(numbers, wide, 6 - many, 9))
                    self.check(one, other)
                self.check(Field(width, []), Field(wide, []))
                self.check(Field(width, [(0,) * width]), Field(wide, [(0,) * wide]))

    def check(self, one, other):
        kept = Kept(one, other)
        for asked in (is_same, together, common):
            with self.subTest(asked=asked.__name__, one=one.steps, other=other.steps):
                with self.assertRaises(FieldError) as caught:
                    asked(one, other)
                self.assertIs(type(caught.exception), Unlike)
        kept.check(self)


class SameTest(unittest.TestCase):
    def test_known(self):
        for width, one, other, same in (
            (1, [], [], True), (1, [], [(0,)], True), (1, [], [(1,)], False),
            (1, [(6,), (4,)], [(-2,)], True), (1, [(6,), (4,)], [(4,)], False),
            (2, [(1, 0), (0, 1)], [(1, 1), (1, 2)], True), (2, [(1, 0), (0, 1)], [(1, 1), (1, -1)], False),
            (2, [(1, 2)], [(2, 4)], False), (2, [(1, 2)], [(2, 4), (3, 6)], True), (2, [(1, 0)], [(0, 1)], False),
            (3, [(1, 0, 0)], [(1, 0, 0), (0, 0, 0)], True), (4, [], [(0, 0, 0, 0)] * 6, True),
        ):
            with self.subTest(one=one, other=other):
                self.assertIs(is_same(Field(width, one), Field(width, other)), same)
                self.assertIs(is_same(Field(width, other), Field(width, one)), same)

    def test_just_where_each_step_is_a_point_of_the_other(self):
        told = []
        for _, one, other in pairs(1, repeats=2):
            with self.subTest(one=one.steps, other=other.steps):
                kept = Kept(one, other)
                same = is_same(one, other)
                kept.check(self)
                told.append(same)
                known = all(is_point(other, step) for step in one.steps)
                known = known and all(is_point(one, step) for step in other.steps)
                self.assertIs(same, known)
                self.assertIs(is_same(other, one), known)
                self.assertIs(is_same(one, one), True)
        self.assertGreater(told.count(True), 50)
        self.assertGreater(told.count(False), 50)


class TogetherTest(unittest.TestCase):
    def test_known(self):
        for width, one, other, rows in (
            (1, [], [], []), (1, [(4,)], [(6,)], [(2,)]), (1, [(4,)], [], [(4,)]),
            (2, [(1, 0)], [(0, -1)], [(1, 0), (0, 1)]), (2, [(2, 2)], [(3, 3)], [(1, 1)]),
            (2, [(4, 0), (0, 4)], [(6, 0), (0, 6)], [(2, 0), (0, 2)]),
        ):
            with self.subTest(one=one, other=other):
                self.assertEqual(together(Field(width, one), Field(width, other)), rows)
                self.assertEqual(together(Field(width, other), Field(width, one)), rows)

    def test_the_stair_form_of_the_steps_of_both(self):
        beyond_six = 0
        for numbers, one, other in pairs(2, repeats=2):
            with self.subTest(one=one.steps, other=other.steps):
                kept = Kept(one, other)
                rows = together(one, other)
                kept.check(self)
                steps = one.steps + other.steps
                check_stair_form(self, rows, one.width)
                check_same_points(self, rows, steps)
                if len(steps) <= 6:
                    self.assertEqual(rows, stairs(Field(one.width, steps)))
                else:
                    beyond_six += 1
                self.assertEqual(together(other, one), rows)
                self.assertEqual(together(one, other), rows)
                both = plus(
                    made_of(one.width, [numbers.within(9) for _ in one.steps], one.steps), 1,
                    made_of(one.width, [numbers.within(9) for _ in other.steps], other.steps),
                )
                self.assertTrue(is_left_as_nothing(rows, both))
        self.assertGreater(beyond_six, 50)

    def test_twelve_steps(self):
        for width in WIDTHS:
            for bound in (3, FAR):
                numbers = Numbers(width)
                steps = [numbers.point(width, bound) for _ in range(12)]
                rows = together(Field(width, steps[:6]), Field(width, steps[6:]))
                check_stair_form(self, rows, width)
                check_same_points(self, rows, steps)


class CommonTest(unittest.TestCase):
    def check(self, numbers, one, other):
        kept = Kept(one, other)
        rows = common(one, other)
        kept.check(self)
        check_stair_form(self, rows, one.width)
        for row in rows:
            self.assertTrue(is_point(one, row))
            self.assertTrue(is_point(other, row))
        for field, against in ((one, other), (other, one)):
            for point in self.points(numbers, field, against, rows):
                self.assertEqual(is_left_as_nothing(rows, point), is_point(against, point))
        self.assertEqual(common(other, one), rows)
        self.assertEqual(common(one, other), rows)
        return rows

    def points(self, numbers, field, against, rows):
        """Points of the field: any, the steps, and ones that lie close to points of both."""
        yield from field.steps
        for _ in range(3):
            yield made_of(field.width, [numbers.within(5) for _ in field.steps], field.steps)
        # So many times a step that it comes to be a point of the other, if any do.
        whole = math.isqrt(room(against))
        for step in field.steps:
            yield times(whole, step)
        for row in rows:
            for part in (2, 3, 5):
                if not any(number % part for number in row):
                    point = tuple(number // part for number in row)
                    if is_point(field, point):
                        yield point

    def test_known(self):
        for width, one, other, rows in (
            (1, [], [], []), (1, [(4,)], [(6,)], [(12,)]), (1, [(4,)], [], []), (1, [(-4,)], [(4,)], [(4,)]),
            (1, [(4,)], [(0,)], []), (1, [(6,), (4,)], [(9,), (6,)], [(6,)]),
            (2, [(1, 0)], [(0, 1)], []), (2, [(1, 2)], [(2, 1)], []), (2, [(2, 2)], [(3, 3)], [(6, 6)]),
            (2, [(1, 0), (0, 1)], [(2, 4)], [(2, 4)]), (2, [(1, 1), (0, 2)], [(2, 0), (0, 1)], [(2, 0), (0, 2)]),
            (2, [(4, 0), (0, 4)], [(6, 0), (0, 6)], [(12, 0), (0, 12)]),
            (3, [(1, 0, 0), (0, 1, 0)], [(0, 1, 0), (0, 0, 1)], [(0, 1, 0)]),
            (3, [(1, 1, 0), (0, 0, 3)], [(1, 1, 1), (0, 0, 2)], [(1, 1, 3), (0, 0, 6)]),
            (4, [(1, 0, 1, 0), (0, 1, 0, 1)], [(1, 1, 1, 1)], [(1, 1, 1, 1)]),
        ):
            with self.subTest(one=one, other=other):
                self.assertEqual(common(Field(width, one), Field(width, other)), rows)
                self.assertEqual(common(Field(width, other), Field(width, one)), rows)

    def test_many_pairs(self):
        for numbers, one, other in pairs(3, repeats=2):
            with self.subTest(one=one.steps, other=other.steps):
                self.check(numbers, one, other)

    def test_shared_steps_taken_twice_or_three_times(self):
        for numbers, field in made_fields(41, bounds=(3, 100, 10 ** 12)):
            bound = small_part(max([1] + [abs(number) for step in field.steps for number in step]))
            one = Field(field.width, [times(2, step) for step in field.steps[:3]] + field.steps[3:5])
            more = [numbers.point(field.width, bound)]
            other = Field(field.width, [times(3, step) for step in field.steps[:3]] + more)
            with self.subTest(one=one.steps, other=other.steps):
                rows = self.check(numbers, one, other)
                for step in field.steps[:3]:
                    self.assertTrue(is_left_as_nothing(rows, times(6, step)))

    def test_nothing_in_common_but_noughts(self):
        for width in (2, 3, 4):
            for cut in range(1, width):
                for bound in (2, 50, FAR):
                    numbers = Numbers(width * 10 + cut)
                    noughts = (0,) * width
                    one = [numbers.point(cut, bound) + noughts[cut:] for _ in range(3)]
                    other = [noughts[:cut] + numbers.point(width - cut, bound) for _ in range(3)]
                    with self.subTest(one=one, other=other):
                        self.assertEqual(self.check(numbers, Field(width, one), Field(width, other)), [])
        self.assertEqual(common(Field(3, [(1, 2, 3)]), Field(3, [(1, 2, 4)])), [])
        self.assertEqual(common(Field(4, []), Field(4, [(1, 2, 3, 4)])), [])

    def test_one_within_the_other(self):
        for numbers, field in made_fields(42):
            inner = [made_of(field.width, [numbers.within(4) for _ in field.steps], field.steps) for _ in range(3)]
            within = Field(field.width, inner)
            with self.subTest(steps=field.steps, inner=inner):
                self.assertEqual(common(field, within), stairs(within))
                self.assertEqual(together(field, within), stairs(field))
                self.assertEqual(common(field, field), stairs(field))
                self.assertEqual(together(field, field), stairs(field))


class RoomsTest(unittest.TestCase):
    def test_product_of_the_rooms(self):
        tried = 0
        for _, one, other in pairs(4, repeats=4):
            width = one.width
            if len(stairs(one)) < width or len(stairs(other)) < width:
                continue
            tried += 1
            with self.subTest(one=one.steps, other=other.steps):
                both = room(Field(width, together(one, other))) * room(Field(width, common(one, other)))
                self.assertEqual(room(one) * room(other), both)
        self.assertGreater(tried, 200)


if __name__ == "__main__":
    unittest.main()
