"""[23], [24]: books written as rows, and read again."""

import random
import re
import unittest

from helper import chapter, edge_books, heading, key, made_books, mark, para, plates, ref, table, word
from leastbook.errors import NoRow
from leastbook.texts import read, written

MANY = 10 ** 40 - 1
PERCENT = chr(37)

BOOKS = [
    ([], []),
    ([chapter("One", "one")], ["chapter one One"]),
    ([chapter("One")], ["chapter - One"]),
    ([chapter("a  b - c | d")], ["chapter - a  b - c | d"]),
    ([chapter("-", "a"), chapter("- -"), chapter("0")], ["chapter a -", "chapter - - -", "chapter - 0"]),
    ([heading("Two", 0, "two")], ["heading 0 two Two"]),
    ([heading("T  wo", 10)], ["heading 10 - T  wo"]),
    ([heading("1 - x", MANY, "abcdefghijkl")], ["heading " + "9" * 40 + " abcdefghijkl 1 - x"]),
    ([para()], ["para"]),
    ([para(), para(), para()], ["para", "para", "para"]),
    ([table(["row"], "t")], ["table t", "row row"]),
    ([table(["", " ", "a  b", " a", "a ", "|"])],
     ["table -", "row ", "row  ", "row a  b", "row  a", "row a ", "row |"]),
    ([table([""]), table([""])], ["table -", "row ", "table -", "row "]),
    ([plates(1, "p")], ["plates 1 p"]),
    ([plates(10), plates(MANY)], ["plates 10 -", "plates " + "9" * 40 + " -"]),
    ([para(word("w"))], ["para", "word w"]),
    ([para(word("-"), word("|||"), word("ref"), word("word"))],
     ["para", "word -", "word |||", "word ref", "word word"]),
    ([para(word("w", "", " ", "a b", " a "), word("x", "y"), word("z"))],
     ["para", "word w", "note ", "note  ", "note a b", "note  a ", "word x", "note y", "word z"]),
    ([para(ref("a", "(p.", "),"))], ["para", "ref a (p.|),"]),
    ([para(ref("a", "x", ""), ref("a", "", "y"), ref("a"))], ["para", "ref a x|", "ref a |y", "ref a |"]),
    ([para(mark("a"), mark("mnopqrstuvwx"), mark("z"), ref("yz"))],
     ["para", "mark a", "mark mnopqrstuvwx", "mark z", "ref yz |"]),
    ([para(key("k"), key("|"), key("k" * 90))], ["para", "key k", "key |", "key " + "k" * 90]),
    ([chapter("word w"), para(word("para")), heading("row x", 0), table(["note x", "para", "table -"])],
     ["chapter - word w", "para", "word para", "heading 0 - row x", "table -", "row note x", "row para",
      "row table -"]),
    ([para(word("a", "n"), mark("m"), key("k"), ref("m"), word("b", "o")), plates(2), para(), table(["r"], "t")],
     ["para", "word a", "note n", "mark m", "key k", "ref m |", "word b", "note o", "plates 2 -", "para",
      "table t", "row r"]),
    ([para(word("!\"#$&'()*+,-./09:;<=>?@AZ[\\]^_`az{|}~"))],
     ["para", "word !\"#$&'()*+,-./09:;<=>?@AZ[\\]^_`az{|}~"]),
]


class WrittenTest(unittest.TestCase):
    def test_each_kind(self):
        for book, rows in BOOKS:
            self.assertEqual(written(book), rows)

    def test_books_that_no_style_lets_by(self):
        book = [para(ref("nowhere"), mark("a")), plates(1, "a"), heading("H", 70)]
        self.assertEqual(written(book), ["para", "ref nowhere |", "mark a", "plates 1 a", "heading 70 - H"])

    def check_refused(self, book, row):
        with self.assertRaises(NoRow) as caught:
            written(book)
        self.assertEqual(caught.exception.row, row)

    def test_a_bar_in_a_references_text(self):
        for ahead, behind in (("|", ""), ("", "|"), ("a|b", ""), ("a", "b|"), ("|", "|"), ("||", "x")):
            self.check_refused([para(ref("a", ahead, behind))], 1)

    def test_the_rows_number_among_all_rows(self):
        book = [chapter("C"), table(["a", "b", "|||"]), para(word("w||", "n", "|||"), key("||"), ref("a", "x", "y")),
                para(mark("a"), ref("a", "", "|"), word("w"))]
        self.check_refused(book, 1 + 4 + 1 + 3 + 1 + 1 + 1 + 1)

    def test_the_first_of_several(self):
        book = [para(ref("a"), ref("a", "|"), ref("a", "|")), para(ref("a", "|"))]
        self.check_refused(book, 2)

    def test_bars_in_other_texts(self):
        book = [chapter("ref a x||y"), heading("|||", 0), table(["ref a ||"]),
                para(word("||", "ref a ||"), key("||||"), ref("a", "x", "y"))]
        self.assertEqual(read(written(book)), book)


class ReadTest(unittest.TestCase):
    def test_each_kind(self):
        for book, rows in BOOKS:
            self.assertEqual(read(rows), book)

    def test_books_that_no_style_lets_by(self):
        rows = ["para", "ref nowhere |", "mark a", "plates 1 a", "heading 70 - H", "chapter a " + "T" * 90]
        self.assertEqual(read(rows), [para(ref("nowhere"), mark("a")), plates(1, "a"), heading("H", 70),
                                      chapter("T" * 90, "a")])

    def test_what_is_written_is_read_to_the_same_book(self):
        books = [book for book, style, maker in made_books(300)] + [book for book, style in edge_books(100)]
        for book in books:
            self.assertEqual(read(written(book)), book)
            self.assertEqual(written(read(written(book))), written(book))

    def test_bounds_of_a_book(self):
        book = [table(["r"] * 100), para(*[word("w" * 90, *["n" * 90] * 100)] * 240)] + [para()] * 78
        self.assertEqual(read(written(book)), book)

    def test_nothing_is_refused_for_being_beyond_them(self):
        book = [chapter("T" * 91, "abcdefghijklm"), plates(10 * MANY), table(["r"] * 101)] + [para()] * 78
        self.assertEqual(read(written(book)), book)


# Rows that stand nowhere, whatever is ahead of them.
NOWHERE = [
    # an unknown word at the beginning
    "", " ", "x", "Para", "paras", "pa", "PARA", "chapters - T", "Chapter - T", "words w", "- -", "title T",
    "wordw", "rowx", "notex", "tablea", "refa |", "chapter", "-", "0", "para\n", "\tpara",
    # a missing part
    "chapter", "chapter -", "chapter - ", "chapter T", "chapter ", "heading", "heading ", "heading 0",
    "heading 0 -", "heading 0 - ", "heading 0 ", "heading - T", "heading a T", "table", "table ", "plates",
    "plates ", "plates 1", "plates 1 ", "plates -", "plates a", "row", "note", "word", "word ", "ref", "ref ",
    "ref a", "ref a ", "ref |", "ref x|y", "mark", "mark ", "key", "key ",
    # a part too many
    "para ", "para x", "para -", "table - ", "table - x", "table a b", "plates 1 - ", "plates 1 - x",
    "plates 1 2 -", "mark a ", "mark a b", "ref a | ", "ref a x|y z", "ref a b x|y", "ref a x |y", "ref a x| y",
    # two blanks
    "chapter  - T", "chapter -  T", "chapter  T", "heading  0 - T", "heading 0  - T", "heading 0 -  T",
    "table  -", "table  ", "plates  1 -", "plates 1  -", "word  w", "word  ", "ref  a |", "ref a  |", "ref a  x|y",
    "mark  a", "key  k", " para", "  para", " chapter - T", " row x", " word w",
    # a label with a sign that is no small letter
    "chapter A T", "chapter a1 T", "chapter aB T", "chapter a- T", "chapter -- T", "chapter _ T", "chapter a.b T",
    "heading 0 A T", "heading 0 1 T", "heading 0 -- T", "table A", "table 1", "table a-b", "table --", "plates 1 A",
    "plates 1 1", "plates 1 --", "mark A", "mark 1", "mark a1", "mark -", "mark a|", "mark ~", "mark `", "mark {",
    "ref A |", "ref 1 |", "ref - |", "ref - x|y", "ref a1 |", "ref a- |",
    # a whole number with a 0 ahead, or no whole number, or one below what is told
    "heading 00 - T", "heading 01 - T", "heading 007 - T", "heading -1 - T", "heading +1 - T", "heading 1.0 - T",
    "heading 1_0 - T", "heading x - T", "heading -0 - T", "plates 0 -", "plates 00 -", "plates 01 -",
    "plates 010 -", "plates -1 -", "plates +1 -", "plates 1_0 -", "plates 0x1 -", "plates x -",
    # a title that begins or ends with a blank
    "chapter - T ", "chapter -  ", "chapter -   ", "chapter a  T", "chapter a T  ", "heading 0 - T ",
    "heading 0 -  ", "heading 0 a  T", "heading 12 a T ",
    # a word with a blank
    "word a b", "word a ", "word  a", "key a b", "key a ", "key  a", "word a  b",
    # a reference with no | or with two
    "ref a x", "ref a xy", "ref a ||", "ref a x||y", "ref a |x|y", "ref a x|y|", "ref a -",
    # a sign that no text has
    "word a" + PERCENT, "chapter - " + PERCENT, "heading 0 - a" + PERCENT + "b", "key " + PERCENT,
    "ref a " + PERCENT + "|", "row " + PERCENT, "note " + PERCENT, "word a\tb", "word a\nb", "row a\n", "note \t",
    "chapter - T\n", "word \x7f", "row \x80", "mark \u00e9", "chapter \u00e4 T", "plates \u0661 -",
    "heading \u00b2 - T", "word \u00e9", "table \u00aa",
]

# What stands ahead: a beginning that can be read, whatever kind of row comes last.
BEGINNINGS = [
    [], ["para"], ["para", "word w"], ["para", "word w", "note n"], ["para", "ref a |"], ["para", "mark a"],
    ["para", "key k"], ["chapter - T"], ["heading 0 - T"], ["plates 1 -"], ["table -"], ["table -", "row r"],
]


class RefusedTest(unittest.TestCase):
    def check(self, rows, row):
        with self.subTest(rows=rows):
            with self.assertRaises(NoRow) as caught:
                read(rows)
            self.assertEqual(caught.exception.row, row)

    def test_rows_that_stand_nowhere(self):
        for wrong in NOWHERE:
            for beginning in BEGINNINGS:
                self.check(beginning + [wrong], len(beginning))
                self.check(beginning + [wrong, "para"], len(beginning))

    def test_items_ahead_of_any_paragraph(self):
        for item in ("word w", "ref a |", "mark a", "key k"):
            self.check([item], 0)
            self.check([item, "para", "word w"], 0)
            for beginning in BEGINNINGS[7:]:
                self.check(beginning + [item], len(beginning))
                self.check(["para", "word w"] + beginning + [item], 2 + len(beginning))

    def test_notes_behind_no_word(self):
        for beginning in BEGINNINGS[:2] + BEGINNINGS[4:]:
            for note in ("note", "note ", "note n"):
                self.check(beginning + [note], len(beginning))
        for between in ("ref a |", "mark a", "key k", "para", "chapter - T", "plates 1 -"):
            self.check(["para", "word w", between, "note n"], 3)
            self.check(["para", "word w", "note n", between, "note n"], 4)

    def test_rows_behind_no_table(self):
        for beginning in BEGINNINGS[:10]:
            for row in ("row", "row ", "row r"):
                self.check(beginning + [row], len(beginning))
        for between in ("para", "chapter - T", "heading 0 - T", "plates 1 -"):
            self.check(["table -", "row r", between, "row r"], 3)

    def test_a_table_without_a_row_in_the_middle(self):
        for behind in ("para", "chapter - T", "heading 0 - T", "plates 1 -", "table -", "table a", "word w",
                       "note n", "ref a |", "mark a", "key k", "row", "x"):
            self.check(["table -", behind], 1)
            self.check(["para", "table t", behind, "row r"], 2)
            self.check(["table -", "row r", "table -", behind], 3)

    def test_a_table_without_a_row_at_the_end(self):
        self.check(["table -"], 1)
        self.check(["table a"], 1)
        self.check(["para", "word w", "table -"], 3)
        self.check(["table -", "row ", "table -"], 3)

    def test_the_first_of_several_wrong_rows(self):
        self.check(["para", "word", "word", "table -"], 1)
        self.check(["x", "y"], 0)
        self.check(["para", "word w", "note n", "row r", "note", "table -"], 3)
        self.check(["table -", "table -"], 1)
        self.check(["table -", "table -", "x"], 1)
        self.check(["table -", "row r", "word w", "table -"], 2)
        self.check(["plates 1 -", "note n", "plates 0 -"], 1)

    def test_each_beginning_can_be_read_further(self):
        for beginning in BEGINNINGS:
            read(beginning + (["row r"] if beginning == ["table -"] else []))


FORMS = {
    "chapter": r"chapter (-|[a-z]+) [!-~]([ -~]*[!-~])?",
    "heading": r"heading (0|[1-9][0-9]*) (-|[a-z]+) [!-~]([ -~]*[!-~])?",
    "para": r"para",
    "table": r"table (-|[a-z]+)",
    "plates": r"plates [1-9][0-9]* (-|[a-z]+)",
    "row": r"row [ -~]*",
    "note": r"note [ -~]*",
    "word": r"word [!-~]+",
    "key": r"key [!-~]+",
    "mark": r"mark [a-z]+",
    "ref": r"ref [a-z]+ [!-{}~]*\|[!-{}~]*",
}
INNER = ("word", "note", "ref", "mark", "key")


def may_follow(kind, last):
    if kind == "row":
        return last in ("table", "row")
    if last == "table":
        return False
    if kind == "note":
        return last in ("word", "note")
    return kind not in INNER or last in INNER + ("para",)


def wrong_row(rows):
    """The number that NoRow ought to have, or None: by the forms of the rows alone."""
    last = ""
    for number, row in enumerate(rows):
        kind = row.split(" ")[0]
        if kind not in FORMS or not re.fullmatch(FORMS[kind], row) or not may_follow(kind, last):
            return number
        last = kind
    return len(rows) if last == "table" else None


class ChangedRowsTest(unittest.TestCase):
    """Rows of made books with a sign or a row changed."""

    def change_row(self, chance, row):
        at = chance.randint(0, len(row))
        sign = chance.choice("  -|a0Z9")
        return chance.choice([row[:at] + sign + row[at:], row[:at] + row[at + 1:], row[:at] + sign + row[at + 1:]])

    def changed(self, chance, rows):
        rows = list(rows)
        at = chance.randint(0, len(rows) - 1)
        change = chance.randint(0, 4)
        if change == 0:
            rows.pop(at)
        elif change == 1:
            rows.insert(at, rows.pop(chance.randint(0, len(rows) - 1)))
        elif change == 2:
            rows = rows[:at]
        else:
            rows[at] = self.change_row(chance, rows[at])
        return rows

    def test_read_or_refused_at_the_first_wrong_row(self):
        chance = random.Random(24)
        refused, taken = 0, 0
        for book, style, maker in made_books(200):
            rows = written(book)
            for time in range(10 if rows else 0):
                changed = self.changed(chance, rows)
                wanted = wrong_row(changed)
                if wanted is None:
                    taken += 1
                    self.assertEqual(written(read(changed)), changed)
                else:
                    refused += 1
                    with self.assertRaises(NoRow) as caught:
                        read(changed)
                    self.assertEqual(caught.exception.row, wanted, changed)
        # Were nearly all taken or all refused, little would be tried.
        self.assertGreater(refused, 200)
        self.assertGreater(taken, 200)


if __name__ == "__main__":
    unittest.main()
