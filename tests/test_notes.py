"""shown and read."""

import itertools
import unittest

from plustables.errors import NoNote, NoSquare
from plustables.notes import read, shown

from examples import all_squares, any_square, any_squares, no_squares, no_tables

# A tab, a line end, and the signs from the blank to ~ but the one behind $.
SIGNS = ["\t", "\n"] + [chr(code) for code in range(32, 127) if code != 37]


def written(rows):
    return "\n".join("".join("-+"[number == 1] for number in row) for row in rows)


class Shown(unittest.TestCase):
    def test_written_out(self):
        self.assertEqual(shown([[1]]), "+")
        self.assertEqual(shown([[-1]]), "-")
        self.assertEqual(shown([[1, -1], [-1, -1]]), "+-\n--")
        self.assertEqual(shown([[1, 1, -1], [1, -1, -1], [-1, 1, 1]]), "++-\n+--\n-++")

    def test_row_by_row(self):
        for rows in itertools.chain(any_squares(), no_tables()):
            found = shown(rows)
            with self.subTest(rows=rows):
                self.assertIs(type(found), str)
                self.assertEqual(found, written(rows))
                self.assertEqual(len(found), len(rows) * (len(rows) + 1) - 1)

    def test_no_square(self):
        for rows in no_squares():
            with self.subTest(rows=rows), self.assertRaises(NoSquare):
                shown(rows)


class Read(unittest.TestCase):
    def test_written_out(self):
        self.assertEqual(read("+"), [[1]])
        self.assertEqual(read("-"), [[-1]])
        self.assertEqual(read("+-\n--"), [[1, -1], [-1, -1]])
        self.assertEqual(read("++-\n+--\n-++"), [[1, 1, -1], [1, -1, -1], [-1, 1, 1]])

    def test_the_same_square_again(self):
        for rows in itertools.chain(any_squares(), no_tables(), all_squares(3)):
            with self.subTest(rows=rows):
                found = read(shown(rows))
                self.assertEqual(found, rows)
                self.assertEqual(shown(found), written(rows))
                self.assertEqual({type(number) for row in found for number in row}, {int})
                self.assertEqual({type(row) for row in found}, {list})

    def test_every_text_of_up_to_five_signs(self):
        right = {written(rows): rows for size in (1, 2) for rows in all_squares(size)}
        seen = 0
        for count in range(6):
            for signs in itertools.product("+-\n \t0x", repeat=count):
                text = "".join(signs)
                with self.subTest(text=text):
                    if text in right:
                        self.assertEqual(read(text), right[text])
                        seen += 1
                    else:
                        with self.assertRaises(NoNote):
                            read(text)
        self.assertEqual(seen, 2 + 16)


class Refusals(unittest.TestCase):
    def refused(self, text):
        with self.subTest(text=text), self.assertRaises(NoNote):
            read(text)

    def test_line_ends(self):
        self.refused("")
        self.refused("\n")
        self.refused("\n\n")
        for size in range(1, 25):
            text = written(any_square(size, 1))
            self.refused(text + "\n")
            self.refused("\n" + text)
            self.refused("\n" + text + "\n")
            self.refused(text + "\n\n")
            self.refused("\n\n" + text)
            if size > 1:
                self.refused(text.replace("\n", "\n\n"))
                self.refused(text.replace("\n", "\n\n", 1))
                self.refused(text.replace("\n", ""))
                self.refused(text.replace("\n", "", 1))
                self.refused(text.replace("\n", " "))
                self.refused(text.replace("\n", " \n"))
                self.refused(text.replace("\n", "\n\t"))

    def test_every_other_sign_in_the_place_of_one(self):
        for size in (1, 2, 5, 24):
            text = written(any_square(size, 2))
            for place, sign in itertools.product(sorted({0, len(text) // 2, len(text) - 1}), SIGNS):
                stays_a_note = sign == text[place] or (sign in "+-" and text[place] in "+-")
                if not stays_a_note:
                    self.refused(text[:place] + sign + text[place + 1:])

    def test_every_sign_put_in(self):
        for size in (1, 2, 5, 24):
            text = written(any_square(size, 3))
            for place, sign in itertools.product(sorted({0, 1, len(text) // 2, len(text)}), SIGNS):
                self.refused(text[:place] + sign + text[place:])

    def test_a_sign_left_out(self):
        for size in (1, 2, 5, 24):
            text = written(any_square(size, 4))
            for place in range(len(text)):
                self.refused(text[:place] + text[place + 1:])

    def test_rows_too_long_or_too_short(self):
        for size in range(1, 25):
            rows = written(any_square(size, 5)).split("\n")
            for place in {0, size // 2, size - 1}:
                for row in (rows[place] + "+", rows[place] + "-", rows[place][:-1], "", rows[place] * 2):
                    self.refused("\n".join(rows[:place] + [row] + rows[place + 1:]))
            self.refused("\n".join(row + "+" for row in rows))
            self.refused("\n".join(rows + ["+" * size]))
            if size > 1:
                self.refused("\n".join(row[:-1] for row in rows))
                self.refused("\n".join(rows[:-1]))

    def test_one_longer_and_one_shorter_by_as_much(self):
        for size in range(2, 25):
            rows = written(any_square(size, 6)).split("\n")
            self.refused("\n".join([rows[0] + "+", rows[1][1:]] + rows[2:]))
            self.refused("\n".join(rows[:-2] + [rows[-2][1:], rows[-1] + "-"]))

    def test_25_rows_and_more(self):
        for size in (25, 26, 32):
            self.refused("\n".join(["+" * size] * size))
            self.refused("\n".join(["-" * size] * size))
        self.refused("\n".join(["+" * 24] * 25))
        self.refused("\n".join(["+" * 25] * 24))
        self.refused("+" * 700)
        self.refused("\n" * 700)

    def test_what_reads_like_a_list(self):
        for text in ("[[1]]", "1", "-1", "+1", "1 1\n1 -1", "+ +\n+ -", "++/+-", "++,+-", "++;+-", "+-+-", "++\\n+-"):
            self.refused(text)


if __name__ == "__main__":
    unittest.main()
