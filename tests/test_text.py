"""The texts of tables (point 2, freelots.rows)."""

import unittest
from random import Random

from brute import FIELDS, big_row, small_tables
from freelots.errors import BadText
from freelots.rows import Rows


class TextTest(unittest.TestCase):

    def refused(self, line, text):
        with self.assertRaises(BadText) as caught:
            Rows.parse(text)
        self.assertEqual(caught.exception.line, line, repr(text))

    def test_text(self):
        self.assertEqual(Rows([[1, -2], [0, 30]]).text(), "field 0\n1 -2\n0 30")
        self.assertEqual(Rows([[1, -2], [0, 30]], 7).text(), "field 7\n1 5\n0 2")
        self.assertEqual(Rows([], 13).text(), "field 13")
        self.assertEqual(Rows([[], []], 2).text(), "field 2\n-\n-")
        self.assertEqual(Rows([[-10 ** 30]]).text(), "field 0\n-1" + "0" * 30)

    def test_parse(self):
        self.assertEqual(Rows.parse("field 0\n1 -2\n0 30"), Rows([[1, -2], [0, 30]]))
        self.assertEqual(Rows.parse("field 11"), Rows([], 11))
        self.assertEqual(Rows.parse("field 2\n-\n-"), Rows([[], []], 2))
        self.assertIsInstance(Rows.parse("field 0"), Rows)

    def test_there_and_back(self):
        random = Random(2)
        tables = [Rows(rows, field) for rows, field in small_tables(3, 60)]
        tables += [Rows([big_row(random, width) for _ in range(60)], field) for field in FIELDS for width in (1, 12)]
        tables += [Rows([[]] * many, field) for field in FIELDS for many in (0, 1, 60)]
        for table in tables:
            self.assertEqual(Rows.parse(table.text()), table)
            self.assertEqual(Rows.parse(table.text()).text(), table.text())

    def test_first_line(self):
        lines = ["", " ", "field", "field ", "field  0", " field 0", "field 0 ", "Field 0", "field 1", "field 4",
                 "field 17", "field -2", "field +2", "field 02", "field 00", "field 0 1", "0", "-", "1 2", "field\t0",
                 "field 0\r", "field 0.0", "field zero", "field True", "fields 0", "field \u0663"]
        for line in lines:
            self.refused(1, line)
            self.refused(1, line + "\n1 2\nx")

    def test_lines_that_are_no_rows(self):
        lines = ["", " ", "--", "+1 2", "1 +2", "1 02", "00 1", "-0 1", "1 -0", "-01 2", "- 1", "1 -", "1  2", " 1 2",
                 "1 2 ", "1\t2", "1,2", "1 x", "x 2", "1.0 2", "1_0 2", "1 2\r", "1 --2", "0x1 2", "1e3 2", "True 1",
                 "\u0661 2", "\u00b2 2", "1\u00a02", "1 2\x0b", "\uff11 2", "1 - 2"]
        for line in lines:
            for field in ("0", "13"):
                self.refused(2, f"field {field}\n{line}")
                self.refused(4, f"field {field}\n3 4\n5 6\n{line}\n7 8\nx")

    def test_empty_lines(self):
        self.refused(2, "field 0\n")
        self.refused(3, "field 0\n1 2\n")
        self.refused(3, "field 0\n1 2\n\n1 2")
        self.refused(2, "field 2\n\n-")

    def test_widths(self):
        self.refused(3, "field 0\n1 2\n1")
        self.refused(3, "field 0\n1 2\n1 2 3")
        self.refused(3, "field 0\n1 2\n-")
        self.refused(3, "field 0\n-\n0")
        self.refused(4, "field 0\n1\n2\n-\n3 3")
        row = " ".join(["1"] * 13)
        self.refused(2, f"field 0\n{row}")
        self.refused(2, f"field 0\n{row}\n{row}")
        self.assertEqual(Rows.parse("field 0\n" + row[2:]).width, 12)

    def test_integers_with_a_prime(self):
        for field in FIELDS[1:]:
            self.assertEqual(Rows.parse(f"field {field}\n0 {field - 1}"), Rows([[0, field - 1]], field))
            for word in (str(field), str(field + 1), "-1", "100", "1" * 30, "1" * 5000, "-0", str(-field)):
                self.refused(2, f"field {field}\n0 {word}")
                self.refused(3, f"field {field}\n0 0\n{word} 0")
        self.refused(2, "field 13\n013")

    def test_behind_60_rows(self):
        text = "field 3" + "\n1 2" * 60
        self.assertEqual(len(Rows.parse(text)), 60)
        for line in ("1 2", "1", "x", "", "-"):
            self.refused(62, f"{text}\n{line}\n1 2")
        self.refused(30, "field 3" + "\n1 2" * 28 + "\nx" + "\n1 2" * 60)
        self.refused(62, "field 0" + "\n-" * 61)


if __name__ == "__main__":
    unittest.main()
