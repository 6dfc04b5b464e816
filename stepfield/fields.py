"""Fields: a width, and steps that have as many numbers."""

from stepfield.errors import BadStep, BadWidth, TooMany

LEAST_WIDTH = 1
MOST_WIDTH = 4
MOST_STEPS = 6


# The words of the refusals name no number that is handed in: Python does
# not write out a number of very many figures, and fails with its own error.
def check_field(width, steps):
    if width < LEAST_WIDTH or width > MOST_WIDTH:
        raise BadWidth("a field is from 1 to 4 wide")
    if len(steps) > MOST_STEPS:
        raise TooMany("a field has at most six steps")
    for step in steps:
        if len(step) != width:
            raise BadStep("a step has as many numbers as its field is wide")


class Field:
    def __init__(self, width, steps):
        check_field(width, steps)
        self.width = width
        # Tuples in a list of the field's own, so that a later change of what
        # was handed in does not reach the field.
        self.steps = [tuple(step) for step in steps]
