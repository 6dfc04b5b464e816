import unittest

from making import FAR, Kept, is_left_as_nothing, made_fields, made_of, plus, product, rank
from stepfield.errors import BadStep, FieldError
from stepfield.fields import Field
from stepfield.reaching import reach
from stepfield.stairs import stairs


class ReachTest(unittest.TestCase):
    def check_yes(self, field, point, answer):
        self.assertIs(type(answer), tuple)
        self.assertEqual(len(answer), 2)
        self.assertEqual(answer[0], "yes")
        self.assertIs(type(answer[1]), list)
        self.assertEqual(len(answer[1]), len(field.steps))
        for count in answer[1]:
            self.assertIs(type(count), int)
        self.assertEqual(made_of(field.width, answer[1], field.steps), tuple(point))

    def check_no(self, field, point, answer):
        self.assertIs(type(answer), tuple)
        self.assertEqual(len(answer), 3)
        self.assertEqual(answer[0], "no")
        weights = answer[1]
        self.assertIs(type(weights), tuple)
        self.assertEqual(len(weights), field.width)
        for weight in weights:
            self.assertIs(type(weight), int)
        self.assertIs(type(answer[2]), int)
        self.assertGreaterEqual(answer[2], 2)
        for step in field.steps:
            self.assertEqual(product(weights, step) % answer[2], 0)
        self.assertNotEqual(product(weights, point) % answer[2], 0)

    def check(self, field, point, word=None):
        """Either answer shows itself; so a wrong one can't be right in form."""
        with self.subTest(width=field.width, steps=field.steps, point=point):
            kept = Kept(field)
            as_list = list(point)
            answer = reach(field, as_list)
            self.assertEqual(as_list, list(point))
            self.assertEqual(reach(field, tuple(point)), answer)
            self.assertIn(answer[0], ("yes", "no"))
            if word is not None:
                self.assertEqual(answer[0], word)
            if answer[0] == "yes":
                self.check_yes(field, point, answer)
            else:
                self.check_no(field, point, answer)
            kept.check(self)
            return answer


class YesTest(ReachTest):
    def test_noughts_are_a_point_of_every_field(self):
        for _, field in made_fields(11):
            self.check(field, (0,) * field.width, "yes")

    def test_each_step_is_a_point(self):
        for _, field in made_fields(12):
            for step in field.steps:
                self.check(field, step, "yes")

    def test_points_made_of_the_steps(self):
        for numbers, field in made_fields(13, times=2):
            for bound in (1, 3, 100, 100):
                counts = [numbers.within(bound) for _ in field.steps]
                self.check(field, made_of(field.width, counts, field.steps), "yes")

    def test_all_points_where_the_steps_have_them(self):
        field = Field(4, [(1, 0, 0, 0), (7, 1, 0, 0), (-FAR, 5, -1, 0), (FAR, FAR, FAR, 1)])
        for point in ((10 ** 18, -(10 ** 18), 10 ** 18, -(10 ** 18)), (0, 0, 0, 1), (10 ** 30, 1, -(10 ** 30), 2)):
            self.check(field, point, "yes")


class NoTest(ReachTest):
    def test_known_points(self):
        for width, steps, point in (
            (1, [], (1,)),
            (1, [(0,)], (-1,)),
            (1, [(2,)], (1,)),
            (1, [(6,), (-4,)], (3,)),
            (1, [(FAR,)], (FAR - 1,)),
            (1, [(FAR,)], (10 ** 18 - 1,)),
            (2, [(2, 0), (1, -3)], (0, 3)),
            (2, [(2, 3)], (4, 5)),
            (2, [(2, 3)], (1, 0)),
            (2, [(2, 4)], (1, 2)),
            (2, [(0, 4)], (1, 0)),
            (2, [(0, 4)], (0, 2)),
            (3, [(1, 2, 3), (4, 5, 6), (7, 8, 9)], (0, 1, 2)),
            (3, [(1, 2, 3), (4, 5, 6), (7, 8, 9)], (0, 3, 7)),
            (3, [(1, 2, 3), (4, 5, 6), (7, 8, 9)], (0, 3, -10 ** 18)),
            (3, [(5, 1, 0), (0, 5, 1), (0, 0, 5)], (25, 1, 1)),
            (4, [(1, 1, 1, 1), (0, 2, 0, 0), (0, 0, 2, 0), (0, 0, 0, 2)], (1, 1, 1, 0)),
            (4, [(3, 1, 1, 1), (0, 3, 1, 1), (0, 0, 3, 1), (0, 0, 0, 3)], (3, 1, 1, 2)),
            (4, [(0, 0, 0, 2)], (0, 0, 0, -1)),
        ):
            self.check(Field(width, steps), point, "no")

    def test_a_field_without_steps(self):
        for width in (1, 2, 3, 4):
            field = Field(width, [])
            self.assertEqual(reach(field, (0,) * width), ("yes", []))
            for place in range(width):
                for number in (1, -1, 2, 7, FAR, 10 ** 18, -(10 ** 18)):
                    point = [0] * width
                    point[place] = number
                    self.check(field, point, "no")
                    self.check(field, [number] * width, "no")

    def test_points_outside_of_all_that_the_steps_span(self):
        tried = 0
        for numbers, field in made_fields(14, times=2):
            for _ in range(3):
                point = numbers.point(field.width, numbers.pick((3, 100, 10 ** 18)))
                if rank(field.steps + [point]) > rank(field.steps):
                    tried += 1
                    self.check(field, point, "no")
        self.assertGreater(tried, 300)

    def test_points_between_the_points_of_the_field(self):
        tried = 0
        for _, field in made_fields(15, times=2):
            rows = stairs(field)
            for index, row in enumerate(rows):
                for part in (2, 3):
                    point = tuple(number // part for number in row)
                    if not any(number % part for number in row):
                        tried += 1
                        self.check(field, point, "no")
        self.assertGreater(tried, 50)


class EitherTest(ReachTest):
    """The stair rows, tested by themselves, tell which of the two it must be."""

    def check_by_rows(self, field, point):
        word = "yes" if is_left_as_nothing(stairs(field), point) else "no"
        self.check(field, point, word)
        return word

    def test_one_number_turned(self):
        words = []
        for numbers, field in made_fields(16, times=2):
            point = made_of(field.width, [numbers.within(100) for _ in field.steps], field.steps)
            for turn in (1, -1, 2, 6, numbers.within(FAR)):
                changed = list(point)
                changed[numbers.below(field.width)] += turn
                words.append(self.check_by_rows(field, changed))
        self.assertGreater(words.count("yes"), 100)
        self.assertGreater(words.count("no"), 100)

    def test_a_half_or_a_third_of_a_point(self):
        words = []
        for numbers, field in made_fields(17, times=2):
            for part in (2, 3):
                for _ in range(3):
                    point = made_of(field.width, [numbers.within(100) for _ in field.steps], field.steps)
                    if not any(number % part for number in point):
                        words.append(self.check_by_rows(field, tuple(number // part for number in point)))
        self.assertGreater(words.count("yes"), 20)
        self.assertGreater(words.count("no"), 20)

    def test_any_points(self):
        for numbers, field in made_fields(18):
            for bound in (2, 50, FAR, 10 ** 18):
                self.check_by_rows(field, numbers.point(field.width, bound))
            self.check_by_rows(field, [numbers.pick((-(10 ** 18), 10 ** 18, 0)) for _ in range(field.width)])

    def test_all_small_points_of_a_small_field(self):
        for width, steps in ((2, [(2, 1), (-1, 3)]), (2, [(4, 2)]), (2, [(0, 3), (6, 0), (4, 0)]), (1, [(9,), (6,)])):
            field = Field(width, steps)
            come_to = {(0,) * width}
            for step in steps:
                come_to = {plus(point, many, step) for point in come_to for many in range(-40, 41)}
            for first in range(-6, 7):
                for second in range(-6, 7):
                    point = (first, second)[:width]
                    self.check(field, point, "yes" if point in come_to else "no")

    def test_asked_again_behind_another_point(self):
        for numbers, field in made_fields(19):
            point = numbers.point(field.width, 20)
            other = made_of(field.width, [numbers.within(9) for _ in field.steps], field.steps)
            first = reach(field, point)
            second = reach(field, other)
            self.assertEqual(reach(field, point), first)
            self.assertEqual(reach(field, other), second)


class RefusalTest(unittest.TestCase):
    def check(self, field, point):
        for kind in (list, tuple):
            with self.subTest(width=field.width, steps=field.steps, point=point, kind=kind):
                handed = kind(point)
                with self.assertRaises(FieldError) as caught:
                    reach(field, handed)
                self.assertIs(type(caught.exception), BadStep)
                self.assertEqual(handed, kind(point))

    def test_points_of_another_length(self):
        for numbers, field in made_fields(20, bounds=(3, FAR)):
            kept = Kept(field)
            for length in (0, field.width - 1, field.width + 1, field.width + len(field.steps), 9):
                if length != field.width:
                    self.check(field, [0] * length)
                    self.check(field, numbers.point(length, FAR))
            for step in field.steps:
                self.check(field, step + (0,))
                self.check(field, step[1:])
            kept.check(self)


if __name__ == "__main__":
    unittest.main()
