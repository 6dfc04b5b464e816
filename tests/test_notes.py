import re
import unittest

from stepfield.errors import FieldError, NoField
from stepfield.fields import Field
from stepfield.notes import read, shown

FAR = 10 ** 15
SIGNS = "\t\n" + "".join(chr(code) for code in range(32, 127) if chr(code) != "%")

# Each width, and each number of steps from none to six.
GOOD = (
    ("width 1", 1, []),
    ("width 2", 2, []),
    ("width 3", 3, []),
    ("width 4", 4, []),
    ("width 1\n0", 1, [(0,)]),
    ("width 1\n-1", 1, [(-1,)]),
    ("width 1\n10\n-20\n0\n5\n5\n-9", 1, [(10,), (-20,), (0,), (5,), (5,), (-9,)]),
    ("width 2\n1 2", 2, [(1, 2)]),
    ("width 2\n0 0\n-3 40", 2, [(0, 0), (-3, 40)]),
    ("width 2\n1 2\n3 4\n5 6\n7 8", 2, [(1, 2), (3, 4), (5, 6), (7, 8)]),
    ("width 3\n0 -1 100\n12 0 0\n-7 -8 -9", 3, [(0, -1, 100), (12, 0, 0), (-7, -8, -9)]),
    ("width 3\n1 0 0\n0 1 0\n0 0 1\n1 1 1\n-1 -1 -1", 3,
     [(1, 0, 0), (0, 1, 0), (0, 0, 1), (1, 1, 1), (-1, -1, -1)]),
    ("width 4\n1000000000000000 -1000000000000000 999999999999999 -999999999999999", 4,
     [(FAR, -FAR, FAR - 1, 1 - FAR)]),
    ("width 4\n1 2 3 4\n5 6 7 8\n9 10 11 12\n-1 -2 -3 -4\n0 0 0 0\n1 2 3 4", 4,
     [(1, 2, 3, 4), (5, 6, 7, 8), (9, 10, 11, 12), (-1, -2, -3, -4), (0, 0, 0, 0), (1, 2, 3, 4)]),
)


# Told apart from the program: by a pattern of the whole text, so that both
# are not wrong in the same way.
def expected(text):
    number = "(?:0|-?[1-9][0-9]*)"
    found = re.fullmatch(f"width ([1-4])((?:\n{number}(?: {number})*)*)", text)
    if found is None:
        return None
    width = int(found.group(1))
    rows = [row.split(" ") for row in found.group(2).split("\n")[1:]]
    if len(rows) > 6 or any(len(row) != width for row in rows):
        return None
    if any(len(word) > 20 or abs(int(word)) > FAR for row in rows for word in row):
        return None
    return width, [tuple(int(word) for word in row) for row in rows]


class NotesTest(unittest.TestCase):
    def check_read(self, text, width, steps):
        field = read(text)
        self.assertIs(type(field), Field)
        self.assertIs(type(field.width), int)
        self.assertEqual(field.width, width)
        self.assertIs(type(field.steps), list)
        self.assertEqual(field.steps, steps)
        for step in field.steps:
            self.assertIs(type(step), tuple)
            for number in step:
                self.assertIs(type(number), int)
        return field

    def check_refused(self, text):
        with self.subTest(text=text[:200]):
            with self.assertRaises(FieldError) as caught:
                read(text)
            self.assertIs(type(caught.exception), NoField)


class ShownTest(NotesTest):
    def test_texts_to_the_sign(self):
        for text, width, steps in GOOD:
            with self.subTest(text=text):
                self.assertEqual(shown(Field(width, steps)), text)
                self.assertEqual(shown(Field(width, [list(step) for step in steps])), text)

    def test_each_width_with_none_to_six_steps(self):
        numbers = (0, 1, -1, 10, -305, FAR, -FAR)
        for width in (1, 2, 3, 4):
            for many in range(7):
                steps = [
                    tuple(numbers[(row + 2 * column) % len(numbers)] for column in range(width))
                    for row in range(many)
                ]
                with self.subTest(width=width, steps=steps):
                    text = shown(Field(width, steps))
                    self.assertEqual(expected(text), (width, steps))
                    self.check_read(text, width, steps)

    def test_a_number_somewhat_beyond_is_written(self):
        self.assertEqual(shown(Field(1, [[FAR + 1]])), "width 1\n1000000000000001")

    def test_the_field_stays_as_it_was(self):
        field = Field(2, [[1, 2], [3, 4]])
        steps = field.steps
        shown(field)
        self.assertIs(field.steps, steps)
        self.assertEqual(field.steps, [(1, 2), (3, 4)])
        self.assertEqual(field.width, 2)

    def test_a_second_field_in_between(self):
        one = Field(2, [[1, 2]])
        other = Field(3, [[4, 5, 6], [7, 8, 9]])
        self.assertEqual(shown(one), "width 2\n1 2")
        self.assertEqual(shown(other), "width 3\n4 5 6\n7 8 9")
        self.assertEqual(shown(one), "width 2\n1 2")


class ReadTest(NotesTest):
    def test_good_texts(self):
        for text, width, steps in GOOD:
            with self.subTest(text=text):
                self.assertEqual(expected(text), (width, steps))
                self.assertEqual(shown(self.check_read(text, width, steps)), text)

    def test_a_second_text_in_between(self):
        one = self.check_read("width 2\n1 2", 2, [(1, 2)])
        other = self.check_read("width 1\n7\n8", 1, [(7,), (8,)])
        again = self.check_read("width 2\n1 2", 2, [(1, 2)])
        self.check_refused("width 2\n1")
        self.check_read("width 2\n1 2", 2, [(1, 2)])
        self.assertIsNot(one.steps, again.steps)
        again.steps.append((3, 4))
        self.assertEqual(one.steps, [(1, 2)])
        self.assertEqual(other.steps, [(7,), (8,)])

    def test_wrong_heads(self):
        for head in ("", " ", "width", "width ", "Width 2", "WIDTH 2", "wide 2", "widths 2", "width2", "width\t2",
                     "width  2", " width 2", "width 2 ", "width 2 2", "width two", "width 02", "width +2", "width -0",
                     "width -2", "width 2_", "width 2.0", "2", "2 width", "width: 2", "width\n2", "height 2"):
            self.check_refused(head)
            self.check_refused(head + "\n1 2")
            self.check_refused(head + "\n1 2\n3 4")

    def test_widths_that_no_field_has(self):
        for width in (0, 5, 6, 12, 99, -1, -2, -4, FAR, FAR + 1):
            self.check_refused(f"width {width}")
            self.check_refused(f"width {width}\n1")
            if 0 <= width < 100:
                row = " ".join(["1"] * width)
                self.check_refused(f"width {width}\n{row}")
                self.check_refused(f"width {width}\n{row}\n{row}")
        self.check_refused("width " + "9" * 5000)

    def test_rows_of_another_length(self):
        for width in (1, 2, 3, 4):
            good = " ".join(["7"] * width)
            for length in (width - 1, width + 1, width + 4):
                bad = " ".join(["7"] * length)
                for rows in ([bad], [bad, good], [good, bad], [good, bad, good], [good] * 5 + [bad]):
                    self.check_refused("\n".join([f"width {width}"] + rows))

    def test_wrong_words_in_a_row(self):
        for word in ("01", "00", "-01", "-00", "+1", "+0", "-0", "1_0", "a", "1a", "a1", "-", "+", "--1", "-+1", "- 1",
                     "1-", "1.0", "1e3", "0x1", "1,", "", " ", "\t", "\t1", "1\t", " 1", "1 ", "_1", "1_",
                     "9" * 17, "9" * 4300, "9" * 4301, "-" + "9" * 5000, "0" * 5000, "1" + "0" * 100000):
            self.check_refused(f"width 1\n{word}")
            self.check_refused(f"width 2\n{word} 1")
            self.check_refused(f"width 2\n1 {word}")
            self.check_refused(f"width 2\n1 2\n3 {word}\n5 6")

    def test_numbers_beyond(self):
        self.check_read(f"width 2\n{FAR} {-FAR}", 2, [(FAR, -FAR)])
        for number in (FAR + 1, -FAR - 1, FAR * 10 - 1, 1 - FAR * 10, FAR * 10, -FAR * 10, 10 ** 18, -(10 ** 18)):
            self.check_refused(f"width 1\n{number}")
            self.check_refused(f"width 2\n1 {number}")
            self.check_refused(f"width 2\n1 2\n{number} 4")
            self.check_refused(shown(Field(1, [[number]])))

    def test_blanks_tabs_and_line_ends(self):
        for text in ("width 2\n1  2", "width 2\n 1 2", "width 2\n1 2 ", "width 2\n1\t2", "width 2\n1 2\t",
                     "width 2\n", "width 2\n1 2\n", "width 2\n\n1 2", "width 2\n1 2\n\n3 4", "\nwidth 2\n1 2",
                     "width 2\n1\n2", "width 2 \n1 2", "width 2\t\n1 2", "width 2\n1 2\n\n", "\n", "", " ", "\t"):
            self.check_refused(text)

    def test_more_steps_than_a_field_has(self):
        for width in (1, 2, 3, 4):
            row = "\n" + " ".join(["3"] * width)
            self.check_read(f"width {width}" + row * 6, width, [(3,) * width] * 6)
            for many in (7, 8, 100):
                self.check_refused(f"width {width}" + row * many)

    def test_other_line_ends(self):
        self.check_refused("width 1\r\n1")
        self.check_refused("width 1\r1")
        self.check_refused("width 1\x0b1")
        self.check_refused("width 1\n1\r\n2")


class OneSignTest(NotesTest):
    def check(self, text):
        known = expected(text)
        if known is None:
            self.check_refused(text)
        else:
            self.assertEqual(shown(self.check_read(text, known[0], known[1])), text)

    def test_one_sign_left_out(self):
        for text, _, _ in GOOD:
            for place in range(len(text)):
                self.check(text[:place] + text[place + 1:])

    def test_one_sign_put_in(self):
        for text, _, _ in GOOD:
            for place in range(len(text) + 1):
                for sign in SIGNS:
                    self.check(text[:place] + sign + text[place:])

    def test_one_sign_set(self):
        for text, _, _ in GOOD:
            for place in range(len(text)):
                for sign in SIGNS:
                    self.check(text[:place] + sign + text[place + 1:])


if __name__ == "__main__":
    unittest.main()
