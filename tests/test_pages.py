"""[20], [21]: the pages as rows."""

import unittest

from helper import (chapter, edge_books, heading, key, made_books, mark, painted, para, plates, ref, table,
                    word)
from leastbook.least import greatest, least
from leastbook.pages import page_rows

PLAIN = (10, 4, False, False)
ODD = (10, 4, True, False)
LISTED = (10, 4, False, True)
BOTH = (10, 4, True, True)
MANY = 10 ** 40 - 1


class PageRowsTest(unittest.TestCase):
    def check(self, book, style, told):
        self.assertEqual(page_rows(book, style), told)
        self.assertEqual(painted(book, style, least(book, style)), told)

    def test_books_without_a_page(self):
        for style in (PLAIN, ODD, LISTED, BOTH):
            self.check([], style, [])
            self.check([para()], style, [])
            self.check([para(), para()], style, [])
            self.check([plates(1)], style, [])
            self.check([plates(3, "a"), para(), plates(MANY)], style, [])

    def test_words_in_lines(self):
        book = [para(word("alpha"), word("beta"), word("x"), word("y" * 8), word("z" * 10)), para(word("a"))]
        self.check(book, PLAIN, [(1, ["alpha beta", "x yyyyyyyy", "zzzzzzzzzz", "a"])])
        self.check(book + [para(word("b"), word("c"))], PLAIN,
                   [(1, ["alpha beta", "x yyyyyyyy", "zzzzzzzzzz", "a"]), (2, ["b c", "", "", ""])])

    def test_words_of_any_signs(self):
        self.check([para(word("|"), word("~"), word("-"), word("!"), word('"'), word("\\"))], PLAIN,
                   [(1, ["| ~ - ! \"", "\\", "", ""])])

    def test_an_empty_paragraph_takes_no_line(self):
        self.check([para(word("a")), para(), para(word("b"))], PLAIN, [(1, ["a", "b", "", ""])])

    def test_the_height_is_that_of_the_style(self):
        for height in (2, 3, 60):
            self.check([para(word("a"))], (10, height, False, False), [(1, ["a"] + [""] * (height - 1))])

    def test_references_with_both_one_or_no_texts(self):
        book = [para(ref("p", "(", "),"), ref("p"), ref("p", "p.", ""), ref("p", "", "!")), plates(1, "p")]
        self.check(book, PLAIN, [(1, ["(2), 2 p.2", "2!", "", ""])])

    def test_references_tell_the_page_of_each_kind_of_thing(self):
        book = [chapter("One", "c"), para(mark("w"), word("w"), mark("r"), ref("c")),
                para(ref("w"), ref("r"), ref("h"), ref("t"), ref("p")), heading("Two", 3, "h"),
                plates(20, "p"), table(["row"], "t")]
        self.check(book, PLAIN, [(1, ["One", "w 1", "1 1 2 23 3", ""]), (2, ["Two", "", "", ""]),
                                 (23, ["row", "", "", ""])])

    def test_marks_and_keys_are_not_written(self):
        book = [para(mark("a"), key("k"), word("w"), key("long" * 9), mark("b"), ref("b"))]
        self.check(book, PLAIN, [(1, ["w 1", "", "", ""])])

    def test_titles_stand_as_they_are(self):
        book = [chapter("A  b c"), heading("x"), heading("0  .  -", 0)]
        self.check(book, PLAIN, [(1, ["A  b c", "x", "0  .  -", ""])])

    def test_tables_rows_stand_as_they_are(self):
        told = page_rows([table(["a  b", " c", "d ", "          "])], PLAIN)
        self.assertEqual(told, [(1, ["a  b", " c", "d ", "          "])])
        told = page_rows([table(["", " ", ""]), para(word("w"))], PLAIN)
        self.assertEqual(told, [(1, ["", " ", "", "w"])])

    def test_a_page_of_empty_rows_is_told(self):
        self.assertEqual(page_rows([plates(2), table(["", ""])], PLAIN), [(3, ["", "", "", ""])])

    def test_notes_at_the_pages_end(self):
        self.check([para(word("a", "one"), word("b"))], PLAIN, [(1, ["a b", "", "", "one"])])
        self.check([para(word("a", "one", "two"), word("b"))], PLAIN, [(1, ["a b", "", "one", "two"])])

    def test_lines_and_notes_that_fill_the_height(self):
        self.check([para(word("a", "one", "two", "three"))], PLAIN, [(1, ["a", "one", "two", "three"])])
        self.check([para(word("a" * 9, "one"), word("b" * 9, "two"), word("c" * 9))], PLAIN,
                   [(1, ["a" * 9, "b" * 9, "one", "two"]), (2, ["c" * 9, "", "", ""])])

    def test_notes_in_the_order_of_the_words(self):
        book = [para(word("z", "1"), word("y", "3", "2")), para(word("x", "0")), table(["row"])]
        self.check(book, (10, 7, False, False), [(1, ["z y", "x", "row", "1", "3", "2", "0"])])
        self.check(book, (10, 8, False, False), [(1, ["z y", "x", "row", "", "1", "3", "2", "0"])])

    def test_notes_go_with_their_word_to_its_page(self):
        book = [table(["r"] * 3), para(word("a", "one"), word("b"), word("c", "two"))]
        self.check(book, PLAIN, [(1, ["r", "r", "r", ""]), (2, ["a b c", "", "one", "two"])])
        book = [table(["r"] * 2), para(word("a", "one"), word("b"), word("c", "two"))]
        self.check(book, PLAIN, [(1, ["r", "r", "a b", "one"]), (2, ["c", "", "", "two"])])

    def test_notes_with_blanks_and_empty_ones(self):
        told = page_rows([para(word("a", "", " x ", ""))], (10, 6, False, False))
        self.assertEqual(told, [(1, ["a", "", "", "", " x ", ""])])

    def test_pages_without_anything_are_left_out(self):
        book = [chapter("One"), chapter("Two"), plates(2), para(word("w")), chapter("Three")]
        self.check(book, PLAIN, [(1, ["One", "", "", ""]), (2, ["Two", "", "", ""]), (5, ["w", "", "", ""]),
                                 (6, ["Three", "", "", ""])])
        self.check(book, ODD, [(1, ["One", "", "", ""]), (3, ["Two", "", "", ""]), (6, ["w", "", "", ""]),
                               (7, ["Three", "", "", ""])])

    def test_pages_of_forty_figures(self):
        style = (90, 2, True, True)
        book = [chapter("One", "a"), para(ref("b", "(", ")"), ref("a")), plates(MANY, "p"), chapter("Two", "b"),
                para(ref("p"), ref("b"))]
        far = 10 ** 40 + 3
        told = [(1, ["One " + "." * 84 + " 3", "Two " + "." * 44 + " " + str(far)]),
                (3, ["One", f"({far}) 3"]), (far, ["Two", f"4 {far}"])]
        self.check(book, style, told)

    def test_forty_nines(self):
        book = [plates(MANY - 1), para(mark("a"), ref("a", "p"), word("w"))]
        self.check(book, (90, 2, False, False), [(MANY, ["p" + "9" * 40 + " w", ""])])

    def test_the_least_rooms_are_taken(self):
        book = [plates(8), table(["r"] * 3), para(word("w" * 8), mark("a"), ref("a"))]
        self.assertEqual((least(book, PLAIN), greatest(book, PLAIN)), ([1], [2]))
        self.check(book, PLAIN, [(9, ["r", "r", "r", "wwwwwwww 9"])])


class ContentsRowsTest(unittest.TestCase):
    def check(self, book, style, told):
        self.assertEqual(page_rows(book, style), told)
        self.assertEqual(painted(book, style, least(book, style)), told)

    def test_not_listed(self):
        self.check([chapter("One"), heading("Two")], PLAIN, [(1, ["One", "Two", "", ""])])

    def test_listed_without_chapters_or_headings(self):
        self.check([para(word("w"))], LISTED, [(1, ["w", "", "", ""])])

    def test_many_dots_one_and_none(self):
        for title, row in (("T", "T ...... 2"), ("T" * 5, "TTTTT .. 2"), ("T" * 6, "TTTTTT . 2"),
                           ("T" * 7, "TTTTTTT  2")):
            for titled in (chapter, heading):
                self.check([titled(title)], LISTED, [(1, [row, "", "", ""]), (2, [title, "", "", ""])])
        self.check([chapter("T")], (90, 2, False, True), [(1, ["T " + "." * 86 + " 2", ""]), (2, ["T", ""])])
        self.check([chapter("T")], (4, 2, True, True), [(1, ["T  3", ""]), (3, ["T", ""])])

    def test_none_where_the_page_has_all_the_room(self):
        book = [heading("T" * 6), plates(7), chapter("U" * 6), chapter("V" * 5)]
        self.check(book, LISTED, [(1, ["TTTTTT . 2", "UUUUUU  10", "VVVVV . 11", ""]), (2, ["T" * 6, "", "", ""]),
                                  (10, ["U" * 6, "", "", ""]), (11, ["V" * 5, "", "", ""])])

    def test_titles_with_blanks_and_dots(self):
        self.check([heading("a  b")], LISTED, [(1, ["a  b ... 2", "", "", ""]), (2, ["a  b", "", "", ""])])
        self.check([heading("...")], LISTED, [(1, ["... .... 2", "", "", ""]), (2, ["...", "", "", ""])])

    def test_titles_that_are_alike(self):
        self.check([chapter("T"), chapter("T"), heading("T")], LISTED,
                   [(1, ["T ...... 2", "T ...... 3", "T ...... 3", ""]), (2, ["T", "", "", ""]),
                    (3, ["T", "T", "", ""])])

    def test_contents_of_more_than_a_page(self):
        book = [heading("H" * (number + 1)) for number in range(5)]
        rows = ["H ...... 3", "HH ..... 3", "HHH .... 3", "HHHH ... 3", "HHHHH .. 4"]
        for style in (LISTED, BOTH):
            self.check(book, style, [(1, rows[:4]), (2, [rows[4], "", "", ""]),
                                     (3, ["H", "HH", "HHH", "HHHH"]), (4, ["HHHHH", "", "", ""])])

    def test_contents_with_a_page_left_out_behind(self):
        self.check([chapter("One"), para(word("w", "n"))], (10, 3, True, True),
                   [(1, ["One .... 3", "", ""]), (3, ["One", "w", "n"])])


class MadeBooksTest(unittest.TestCase):
    def each(self):
        for book, style, maker in made_books(400):
            yield book, style
        for book, style in edge_books(400):
            yield book, style

    def test_as_painted_sign_by_sign(self):
        for book, style in self.each():
            self.assertEqual(page_rows(book, style), painted(book, style, least(book, style)), (book, style))

    def test_pages_rise_and_keep_to_the_style(self):
        for book, style in self.each():
            told = page_rows(book, style)
            pages = [page for page, rows in told]
            self.assertEqual(pages, sorted(set(pages)))
            for page, rows in told:
                self.assertEqual(len(rows), style[1])
                self.assertLessEqual(max(len(row) for row in rows), style[0])


if __name__ == "__main__":
    unittest.main()
