"""Fields as texts: written, and read back."""

from stepfield.errors import FieldError, NoField
from stepfield.fields import Field

HEAD = "width "

# The signs of -10 ** 15, the longest number that a text of a field may have.
MOST_SIGNS = 17


def shown(field):
    head = HEAD + str(field.width)
    return "\n".join([head] + [shown_step(step) for step in field.steps])


def shown_step(step):
    return " ".join([str(number) for number in step])


def read(text):
    lines = text.split("\n")
    width = read_width(lines[0])
    steps = [read_step(line) for line in lines[1:]]
    try:
        return Field(width, steps)
    except FieldError:
        raise NoField("no field has this width and these steps") from None


def read_width(line):
    if not line.startswith(HEAD):
        raise NoField("the first line tells no width")
    return read_number(line[len(HEAD):])


def read_step(line):
    return [read_number(word) for word in line.split(" ")]


def read_number(word):
    # Ahead of int, which has a bound of its own on how many figures it reads.
    if len(word) > MOST_SIGNS:
        raise NoField("a number is too long")
    try:
        number = int(word)
    except ValueError:
        raise NoField("a number is not written by figures") from None
    # int also reads forms that are never written, such as 01, +1, -0 and 1_0.
    if str(number) != word:
        raise NoField("a number is not written as it must be")
    if abs(number) > 10 ** 15:
        raise NoField("a number is too far from nought")
    return number
