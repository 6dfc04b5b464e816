"""Point 1 over the whole program: what is told is the asker's own, and nothing hangs on what was handed in."""

import unittest

from making import made_fields, made_of
from stepfield.fields import Field
from stepfield.notes import read, shown
from stepfield.reaching import reach
from stepfield.short import room, short
from stepfield.stairs import common, is_same, stairs, together


def lists_told(field, other, point):
    return [
        stairs(field), short(field), together(field, other), common(field, other), together(field, field),
        common(field, field), reach(field, point)[1],
    ]


def all_told(field, other, point):
    return (
        field.width, list(field.steps), shown(field), room(field), is_same(field, other),
        reach(field, (0,) * field.width), lists_told(field, other, point),
    )


class OwnTest(unittest.TestCase):
    def cases(self, seed):
        for numbers, field in made_fields(seed, bounds=(3, 100, 10 ** 15)):
            steps = [numbers.point(field.width, 9) for _ in range(numbers.below(7))]
            point = made_of(field.width, [numbers.within(9) for _ in field.steps], field.steps)
            yield field, Field(field.width, steps), point

    def test_a_told_list_that_is_changed_turns_nothing(self):
        for field, other, point in self.cases(51):
            with self.subTest(steps=field.steps, other=other.steps, point=point):
                before = all_told(field, other, point)
                for told in lists_told(field, other, point):
                    told.clear()
                self.assertEqual(all_told(field, other, point), before)
                for told in lists_told(field, other, point):
                    told.append((1,) * field.width)
                    told.insert(0, 5)
                self.assertEqual(all_told(field, other, point), before)

    def test_no_two_told_lists_are_one(self):
        for field, other, point in self.cases(52):
            told = lists_told(field, other, point) + lists_told(field, other, point)
            told += [field.steps, other.steps, read(shown(field)).steps]
            self.assertEqual(len({id(one) for one in told}), len(told))

    def test_what_was_handed_in_may_be_changed(self):
        for field, other, point in self.cases(53):
            with self.subTest(steps=field.steps, other=other.steps, point=point):
                steps = [list(step) for step in field.steps]
                asked = list(point)
                handed = Field(field.width, steps)
                before = all_told(handed, other, asked)
                self.assertEqual(all_told(field, other, point), before)
                for step in steps:
                    step[0] += 1
                    step.append(4)
                steps.append([1] * field.width)
                self.assertEqual(all_told(handed, other, point), before)
                steps.clear()
                asked.clear()
                self.assertEqual(all_told(handed, other, point), before)

    def test_a_changed_list_turns_no_answer_told_before(self):
        for field, other, point in self.cases(54):
            rows = stairs(field)
            made = Field(field.width, rows)
            rows.clear()
            self.assertEqual(stairs(made), stairs(field))
            asked = list(point)
            answer = reach(field, asked)
            counts = list(answer[1])
            asked.clear()
            self.assertEqual(list(answer[1]), counts)

    def test_answers_do_not_hang_on_what_was_asked_before(self):
        cases = list(self.cases(55))
        first = [all_told(*case) for case in cases]
        again = [all_told(*case) for case in reversed(cases)]
        self.assertEqual(first, again[::-1])

    def test_equal_fields_of_their_own_are_answered_alike(self):
        for field, other, point in self.cases(56):
            same = Field(field.width, list(field.steps))
            self.assertEqual(all_told(same, other, list(point)), all_told(field, other, point))


if __name__ == "__main__":
    unittest.main()
