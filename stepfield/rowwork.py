"""Rows of whole numbers and the one stair form of them, for all that works on rows."""


def taken_off(row, many, other):
    return tuple([number - many * less for number, less in zip(row, other)])


def product(row, other):
    return sum([number * factor for number, factor in zip(row, other)])


def edge_place(row):
    for place, number in enumerate(row):
        if number != 0:
            return place
    return len(row)


def stair_rows(width, steps):
    by_place = [None] * width
    for step in steps:
        put_in(by_place, step)
        # Behind each step, not at the end alone: else the numbers grow
        # longer with every step that is put in.
        tidy(by_place)
    return [row for row in by_place if row is not None]


# by_place holds, for each place, the row whose edge stands there, or None.
def put_in(by_place, row):
    for place in range(len(by_place)):
        if row[place] == 0:
            continue
        if by_place[place] is None:
            by_place[place] = row
            return
        # Euclid's way: both rows together keep the same points all along, and
        # at the end one of them is nought here and goes on to the right.
        upper = by_place[place]
        while row[place] != 0:
            left = taken_off(upper, upper[place] // row[place], row)
            upper = row
            row = left
        by_place[place] = upper


# From left to right: a row changes what stands right of its edge in the rows
# ahead, and that is set right when its own place comes.
def tidy(by_place):
    for place in range(len(by_place)):
        row = by_place[place]
        if row is None:
            continue
        if row[place] < 0:
            row = tuple([-number for number in row])
            by_place[place] = row
        for ahead in range(place):
            higher = by_place[ahead]
            if higher is not None:
                by_place[ahead] = taken_off(higher, higher[place] // row[place], row)
