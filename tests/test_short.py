import itertools
import math
import unittest

from making import (
    BOUNDS, FAR, Kept, Numbers, check_rows, edge, gram, made_fields, made_of, product,
)
from stepfield.fields import Field
from stepfield.short import room, short
from stepfield.stairs import stairs


class RoomTest(unittest.TestCase):
    def test_known_rooms(self):
        for width, steps, square in (
            (1, [], 1), (2, [], 1), (3, [(0, 0, 0)], 1), (4, [(0, 0, 0, 0)] * 6, 1),
            (1, [(5,)], 25), (1, [(-6,), (4,)], 4), (1, [(0,), (FAR,)], FAR ** 2),
            (2, [(3, 4)], 25), (2, [(3, 4), (6, 8)], 25), (2, [(2, 0), (1, -3)], 36),
            (2, [(1, 0), (0, 1), (5, 7)], 1),
            (3, [(1, 0, 0), (0, 1, 1)], 2), (3, [(1, 1, 0), (0, 1, 1)], 3),
            (3, [(1, 2, 3), (4, 5, 6), (7, 8, 9)], 54),
            (4, [(1, 1, 1, 1)], 4), (4, [(1, 1, 1, 1), (1, -1, 1, -1), (1, 1, -1, -1), (1, -1, -1, 1)], 256),
        ):
            with self.subTest(width=width, steps=steps):
                self.assertEqual(room(Field(width, steps)), square)

    def test_by_the_products_of_rows(self):
        for _, field in made_fields(31, times=2):
            with self.subTest(width=field.width, steps=field.steps):
                kept = Kept(field)
                square = room(field)
                kept.check(self)
                self.assertIs(type(square), int)
                rows = stairs(field)
                self.assertEqual(square, gram(rows) if rows else 1)
                self.assertEqual(square, gram(short(field)) if rows else 1)
                if len(rows) == field.width:
                    self.assertEqual(square, math.prod(row[edge(row)] for row in rows) ** 2)
                if len(rows) == len(field.steps):
                    self.assertEqual(square, gram(field.steps) if rows else 1)
                self.assertEqual(room(field), square)


class ShortTest(unittest.TestCase):
    def check(self, field, numbers=None):
        kept = Kept(field)
        rows = short(field)
        kept.check(self)
        form = stairs(field)
        check_rows(self, rows, field.width)
        self.assertEqual(len(rows), len(form))
        self.assertEqual(stairs(Field(field.width, rows)), form)
        many = len(rows)
        squares = [product(row, row) for row in rows]
        least = gram(form) if form else 1
        self.assertGreaterEqual(math.prod(squares), least)
        self.assertLessEqual(math.prod(squares), 2 ** (many * (many - 1) // 2) * least)
        for point in self.points(field, rows, numbers):
            if any(point):
                self.assertLessEqual(squares[0], 2 ** (many - 1) * product(point, point))
        self.assertEqual(short(field), rows)
        return rows

    def points(self, field, rows, numbers):
        for counts in itertools.product((-1, 0, 1, 2), repeat=len(rows)):
            yield made_of(field.width, counts, rows)
        yield from field.steps
        yield from stairs(field)
        if numbers is not None:
            for _ in range(10):
                yield made_of(field.width, [numbers.within(3) for _ in field.steps], field.steps)

    def test_no_steps_where_there_are_no_rows(self):
        for width in (1, 2, 3, 4):
            for many in range(7):
                self.assertEqual(short(Field(width, [(0,) * width] * many)), [])

    def test_width_one(self):
        for _, field in made_fields(32, widths=(1,), times=3):
            greatest = math.gcd(*(step[0] for step in field.steps))
            self.assertIn(short(field), ([(greatest,)], [(-greatest,)]) if greatest else ([],))

    def test_bounds_at_many_fields(self):
        for numbers, field in made_fields(33):
            with self.subTest(width=field.width, steps=field.steps):
                self.check(field, numbers)

    def test_far_numbers(self):
        for numbers, field in made_fields(34, bounds=(10 ** 12, FAR), widths=(2, 3, 4), times=4):
            with self.subTest(width=field.width, steps=field.steps):
                self.check(field, numbers)

    def test_fields_that_have_one_short_point(self):
        # Steps that are long, and all but alike: what is short is hidden.
        for width in (2, 3, 4):
            for seed in range(20):
                numbers = Numbers(seed * 10 + width)
                base = [numbers.point(width, 2) for _ in range(width)]
                steps = [
                    made_of(width, [numbers.within(10 ** 6) for _ in base], base) for _ in range(width + 1)
                ]
                field = Field(width, steps)
                with self.subTest(width=width, steps=steps):
                    self.check(field, numbers)

    def test_stairs_with_one_far_edge(self):
        for width in (2, 3, 4):
            for bound in BOUNDS[3:]:
                numbers = Numbers(bound + width)
                steps = []
                for place in range(width - 1):
                    step = [0] * width
                    step[place] = 1
                    step[-1] = numbers.below(bound)
                    steps.append(step)
                steps.append([0] * (width - 1) + [bound])
                field = Field(width, steps)
                with self.subTest(width=width, steps=steps):
                    self.check(field, numbers)

    def test_fields_at_which_a_looser_way_falls_short(self):
        # Rows left in their order while the square of the upright part falls to
        # a half or to three fifths, not to three fourths, break a bound here.
        for width, steps in (
            (4, [(-1, 0, 2, 0), (0, -3, 2, 3), (-2, -3, 3, -3)]),
            (4, [(0, 51, 1, 0), (-22, -11, 0, 0), (6, 4, 35, -29)]),
            (3, [(-5, 11, 6), (4, 6, 2), (-2, -4, 11)]),
            (4, [(3, 0, 0, -3), (0, 1, 1, 3), (0, 0, 2, 0)]),
            (4, [(5, -1, 5, 2), (0, 4, -2, -4), (5, 3, 0, -3)]),
        ):
            with self.subTest(width=width, steps=steps):
                self.check(Field(width, steps))

    def test_uneven_sizes(self):
        for width in (2, 3, 4):
            for seed in range(30):
                numbers = Numbers(seed * 100 + width)
                steps = [numbers.point(width, numbers.pick(BOUNDS)) for _ in range(1 + seed % 6)]
                field = Field(width, steps)
                with self.subTest(width=width, steps=steps):
                    self.check(field, numbers)

    def test_known_short_steps(self):
        # Here the bounds leave nothing else for the first one.
        rows = self.check(Field(2, [(1, 1000), (0, 1000003)]))
        self.assertLessEqual(product(rows[0], rows[0]), 2 * 1000 ** 2 + 2)
        rows = self.check(Field(2, [(1, 10 ** 6), (0, 10 ** 12)]))
        self.assertLessEqual(product(rows[0], rows[0]), 2 * (10 ** 12 + 1))
        self.assertIn(self.check(Field(2, [(3, 5), (5, 8)]))[0], [(1, 0), (0, 1), (-1, 0), (0, -1), (1, 1), (1, -1),
                                                                  (-1, 1), (-1, -1)])

    def test_numbers_somewhat_beyond(self):
        numbers = Numbers(77)
        for width in (2, 3, 4):
            self.check(Field(width, [numbers.point(width, 10 ** 30) for _ in range(width)]), numbers)


if __name__ == "__main__":
    unittest.main()
