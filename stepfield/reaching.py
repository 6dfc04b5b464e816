"""Whether a point of a field is come to, told with what shows it."""

from stepfield.errors import BadStep
from stepfield.rowwork import edge_place, product, stair_rows, taken_off


def reach(field, point):
    width = field.width
    if len(point) != width:
        raise BadStep("a point has as many numbers as its field is wide")
    rows = counted_rows(field)
    left = tuple(point) + (0,) * len(field.steps)
    for row in rows:
        place = edge_place(row)
        left = taken_off(left, left[place] // row[place], row)
    if edge_place(left) >= width:
        return ("yes", [-number for number in left[width:]])
    return shown_apart([row[:width] for row in rows], left[:width])


# Behind the numbers of a row stand its counts, how often each step is taken
# for it: whatever is done to rows is done to their counts too.
def counted_rows(field):
    many = len(field.steps)
    rows = []
    for index, step in enumerate(field.steps):
        counts = [0] * many
        counts[index] = 1
        rows.append(step + tuple(counts))
    return stair_rows(field.width + many, rows)


# left is the point less points of the field, so it weighs what the point
# weighs, but for multiples of the number.
def shown_apart(rows, left):
    place = edge_place(left)
    weights = weights_at(rows, place, len(left))
    for row in rows:
        if edge_place(row) == place:
            return ("no", weights, product(weights, row))
    # Here all rows weigh nought, so any number will do that does not go into
    # what is left.
    return ("no", weights, abs(product(weights, left)) + 1)


# Weights by which each row with its edge left of the place weighs nought, and
# what stands right of the place weighs nothing.
def weights_at(rows, place, width):
    ahead = [row for row in rows if edge_place(row) < place]
    weights = [0] * width
    # The product of the edges, so that each division below leaves nothing.
    weights[place] = 1
    for row in ahead:
        weights[place] *= row[edge_place(row)]
    for row in reversed(ahead):
        edge = edge_place(row)
        weights[edge] = -product(weights, row) // row[edge]
    return tuple(weights)
