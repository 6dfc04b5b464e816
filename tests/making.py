"""Many fields to test with, and sums that are told apart from the program's own."""

import itertools
import math

from stepfield.fields import Field

FAR = 10 ** 15
WIDTHS = (1, 2, 3, 4)
BOUNDS = (1, 2, 3, 6, 12, 100, 10 ** 6, 10 ** 12, FAR)


class Numbers:
    """Numbers that are the same at each run and under each Python."""

    def __init__(self, seed):
        self.state = seed * 7919 + 1

    def below(self, bound):
        number = 0
        for _ in range(3):
            self.state = (self.state * 6364136223846793005 + 1442695040888963407) % 2 ** 64
            number = number * 2 ** 32 + self.state // 2 ** 32
        return number % bound

    def within(self, bound):
        return self.below(2 * bound + 1) - bound

    def pick(self, things):
        return things[self.below(len(things))]

    def point(self, width, bound):
        return tuple(self.within(bound) for _ in range(width))


def plus(one, many, other):
    return tuple(a + many * b for a, b in zip(one, other))


def product(one, other):
    return sum(a * b for a, b in zip(one, other))


def made_of(width, counts, steps):
    point = (0,) * width
    for count, step in zip(counts, steps, strict=True):
        point = plus(point, count, step)
    return point


def small_part(bound):
    """A bound that leaves room for a sum of many times such a number within the first one."""
    return max(1, bound // 30)


def made_steps(numbers, width, many, bound):
    """Steps of all sorts: free ones, ones made of those ahead, noughts, the same twice."""
    steps = []
    for _ in range(many):
        sort = numbers.below(8)
        if sort == 0:
            step = (0,) * width
        elif sort == 1 and steps:
            step = numbers.pick(steps)
        elif sort == 2 and steps:
            step = made_of(width, [numbers.within(2) for _ in steps], steps)
        elif sort == 3:
            step = tuple(number * numbers.below(2) for number in numbers.point(width, bound))
        elif sort == 4:
            step = tuple(-abs(number) for number in numbers.point(width, bound))
        elif sort == 5 and bound == FAR:
            step = tuple(numbers.pick((-FAR, FAR, FAR - 1, 0)) for _ in range(width))
        else:
            step = numbers.point(width, bound)
        if max(map(abs, step)) > FAR:
            step = numbers.point(width, small_part(bound))
        steps.append(step)
    return steps


def made_fields(seed, bounds=BOUNDS, widths=WIDTHS, times=1):
    for width in widths:
        for many in range(7):
            for bound in bounds:
                for time in range(times):
                    numbers = Numbers(((seed * 10 + width) * 10 + many) * 1000 + time * 20 + BOUNDS.index(bound))
                    yield numbers, Field(width, made_steps(numbers, width, many, bound))


def determinant(table):
    """By every way to take one number of each row and column, with its sign."""
    total = 0
    for places in itertools.permutations(range(len(table))):
        turns = sum(places[i] > places[j] for i in range(len(places)) for j in range(i + 1, len(places)))
        total += (-1) ** turns * math.prod(table[row][place] for row, place in enumerate(places))
    return total


def gram(rows):
    return determinant([[product(one, other) for other in rows] for one in rows])


def minors(rows, size):
    """The greatest number that goes into all determinants of this size within the rows."""
    width = len(rows[0]) if rows else 0
    return math.gcd(*(
        determinant([[row[place] for place in places] for row in some])
        for some in itertools.combinations(rows, size)
        for places in itertools.combinations(range(width), size)
    ))


def rank(rows):
    width = len(rows[0]) if rows else 0
    return max(size for size in range(min(len(rows), width) + 1) if size == 0 or minors(rows, size) != 0)


def edge(row):
    return next(place for place, number in enumerate(row) if number != 0)


def left_by(rows, point):
    """What is left of a point when it is taken apart by stair rows from the first one on."""
    for row in rows:
        place = edge(row)
        point = plus(point, -(point[place] // row[place]), row)
    return point


def is_left_as_nothing(rows, point):
    return not any(left_by(rows, point))


def check_rows(test, rows, width):
    """A list of tuples of whole numbers, as many as the field is wide."""
    test.assertIs(type(rows), list)
    for row in rows:
        test.assertIs(type(row), tuple)
        test.assertEqual(len(row), width)
        for number in row:
            test.assertIs(type(number), int)


def check_stair_form(test, rows, width):
    check_rows(test, rows, width)
    for row in rows:
        test.assertTrue(any(row), "a row of noughts alone")
        test.assertGreater(row[edge(row)], 0)
    for one, other in zip(rows, rows[1:]):
        test.assertLess(edge(one), edge(other))
    for index, row in enumerate(rows):
        for ahead in rows[:index]:
            test.assertIn(ahead[edge(row)], range(row[edge(row)]))


def check_same_points(test, rows, steps):
    """Whether stair rows have just the points of the steps, told without counts.

    Steps that are left as nothing by the rows are points of them. Are they as
    many in rank, then the rows have more points than the steps just where the
    determinants of the steps have a greater number in common than theirs.
    """
    for step in steps:
        test.assertTrue(is_left_as_nothing(rows, step))
    test.assertEqual(len(rows), rank(steps))
    if rows:
        test.assertEqual(minors(steps, len(rows)), minors(rows, len(rows)))


class Kept:
    """What a field was, to see that it has stayed so."""

    def __init__(self, *fields):
        self.fields = [(field, field.width, field.steps, list(field.steps)) for field in fields]

    def check(self, test):
        for field, width, steps, copied in self.fields:
            test.assertEqual(field.width, width)
            test.assertIs(field.steps, steps)
            test.assertEqual(field.steps, copied)
