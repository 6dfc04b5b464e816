"""The stair form of a field, and of what two fields have together or in common."""

from stepfield.errors import Unlike
from stepfield.rowwork import stair_rows


def stairs(field):
    return stair_rows(field.width, field.steps)


def check_alike(one, other):
    if one.width != other.width:
        raise Unlike("two fields of unlike widths")


def is_same(one, other):
    check_alike(one, other)
    return stairs(one) == stairs(other)


def together(one, other):
    check_alike(one, other)
    return stair_rows(one.width, one.steps + other.steps)


# Each row of the one stands twice side by side, each row of the other stands
# left alone. Where the left half comes to noughts, a point of the one is
# evened out by a point of the other, so the right half is a point of both;
# and each point of both comes so.
def common(one, other):
    check_alike(one, other)
    width = one.width
    noughts = (0,) * width
    rows = [row + row for row in stairs(one)] + [row + noughts for row in stairs(other)]
    return [row[width:] for row in stair_rows(2 * width, rows) if row[:width] == noughts]
