"""The room's square of a field, and short steps of it."""

from stepfield.rowwork import product, taken_off
from stepfield.stairs import stairs


def room(field):
    table = room_table(stairs(field))
    return table[-1][-1] if table else 1


def short(field):
    rows = stairs(field)
    table = room_table(rows)
    index = 1
    while index < len(rows):
        lean_less(rows, table, index)
        if is_longer_ahead(table, index):
            row = rows[index]
            rows[index] = rows[index - 1]
            rows[index - 1] = row
            table = room_table(rows)
            index = max(index - 1, 1)
        else:
            index += 1
    return rows


# table[k][k] is the room's square of the rows up to row k, and table[k][j] how
# far row k leans on the upright part of row j, times table[j][j]: so all of it
# is whole numbers, and each division leaves nothing.
def room_table(rows):
    table = []
    for row in rows:
        line = []
        table.append(line)
        for index in range(len(table)):
            number = product(row, rows[index])
            before = 1
            for column in range(index):
                square = table[column][column]
                number = (square * number - line[column] * table[index][column]) // before
                before = square
            line.append(number)
    return table


# Takes off the rows ahead, the nearest whole many times, so that the row leans
# on the upright part of each by at most a half.
def lean_less(rows, table, index):
    for ahead in range(index - 1, -1, -1):
        square = table[ahead][ahead]
        many = (2 * table[index][ahead] + square) // (2 * square)
        rows[index] = taken_off(rows[index], many, rows[ahead])
        for column in range(ahead + 1):
            table[index][column] -= many * table[ahead][column]


# Whether this row, in the place of the row ahead, would have an upright part
# whose square is below three fourths of that row's. Where no row is so, the
# bounds of the short steps hold; and each change of places makes one of the
# rooms' squares smaller by more than a fourth, so there is an end.
def is_longer_ahead(table, index):
    square = table[index - 1][index - 1]
    before = table[index - 2][index - 2] if index > 1 else 1
    lean = table[index][index - 1]
    return 4 * (table[index][index] * before + lean * lean) < 3 * square * square
