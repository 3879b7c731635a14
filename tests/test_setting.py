import unittest

from helper import (chapter, heading, key, labels_of, made_books, mark, para, plates, reckoned, ref,
                    table, word)
from leastbook.books import most_pages, most_room, refs
from leastbook.places import figures
from leastbook.setting import laid, pages_of

PLAIN = (10, 4, False, False)
ODD = (10, 4, True, False)
LISTED = (10, 4, False, True)
BOTH = (10, 4, True, True)
MANY = 10 ** 40 - 1


class LaidTest(unittest.TestCase):
    def check(self, book, style, rooms, told):
        self.assertEqual(laid(book, style, rooms), told)

    def test_a_book_of_no_block(self):
        for style in (PLAIN, ODD, LISTED, BOTH):
            self.check([], style, [], [[]])

    def test_an_empty_paragraph(self):
        self.check([para()], PLAIN, [], [[], []])
        self.check([para(word("a")), para(), para(word("b"))], PLAIN, [],
                   [[], [(1, 0, 0)], [], [(1, 1, 0)]])

    def test_an_empty_paragraph_takes_no_line(self):
        self.check([para(), para(), chapter("One")], ODD, [], [[], [], [], [(1, 0, 0)]])

    def test_words_in_lines_and_pages(self):
        items = [word("alpha"), word("beta"), word("x"), word("y" * 8), word("z" * 9), word("z"), word("q")]
        self.check([para(*items)], PLAIN, [],
                   [[], [(1, 0, 0), (1, 0, 6), (1, 1, 0), (1, 1, 2), (1, 2, 0), (1, 3, 0), (1, 3, 2)]])
        self.check([para(*items), para(word("a"))], PLAIN, [],
                   [[], [(1, 0, 0), (1, 0, 6), (1, 1, 0), (1, 1, 2), (1, 2, 0), (1, 3, 0), (1, 3, 2)],
                    [(2, 0, 0)]])

    def test_notes_take_rows_at_the_foot(self):
        self.check([para(word("a", "n"), word("b" * 9), word("c", "n"), word("d", "n"))], PLAIN, [],
                   [[], [(1, 0, 0), (1, 1, 0), (2, 0, 0), (2, 0, 2)]])
        self.check([para(word("a", "n", "n", "n"), word("b"), word("c" * 10), word("d"))], PLAIN, [],
                   [[], [(1, 0, 0), (1, 0, 2), (2, 0, 0), (2, 1, 0)]])

    def test_notes_stay_at_the_foot_behind_their_paragraph(self):
        self.check([para(word("a", "n", "n")), table(["r", "r"]), para(word("b"))], PLAIN, [],
                   [[], [(1, 0, 0)], [(2, 0, 0)], [(2, 2, 0)]])
        self.check([para(word("a", "n", "n")), table(["r"]), para(word("b"))], PLAIN, [],
                   [[], [(1, 0, 0)], [(1, 1, 0)], [(2, 0, 0)]])

    def test_chapters(self):
        book = [chapter("One"), para(word("a")), chapter("Two"), chapter("Three")]
        self.check(book, PLAIN, [], [[], [(1, 0, 0)], [(1, 1, 0)], [(2, 0, 0)], [(3, 0, 0)]])
        self.check(book, ODD, [], [[], [(1, 0, 0)], [(1, 1, 0)], [(3, 0, 0)], [(5, 0, 0)]])

    def test_headings_with_their_keep(self):
        for keep, place in ((0, (1, 1, 0)), (2, (1, 1, 0)), (3, (2, 0, 0))):
            self.check([para(word("a")), heading("H", keep)], PLAIN, [], [[], [(1, 0, 0)], [place]])
        self.check([para(word("a")), heading("H", 1), table(["r"]), heading("H", 0), heading("H", 0)],
                   PLAIN, [], [[], [(1, 0, 0)], [(1, 1, 0)], [(1, 2, 0)], [(1, 3, 0)], [(2, 0, 0)]])

    def test_tables(self):
        self.check([table(["a", "", "c"]), table(["a"]), table(["a", "b"]), table(["a"] * 4), para(word("w"))],
                   PLAIN, [], [[], [(1, 0, 0)], [(1, 3, 0)], [(2, 0, 0)], [(3, 0, 0)], [(4, 0, 0)]])

    def test_plates(self):
        self.check([plates(1), plates(3), para(word("a")), plates(2), chapter("One")], ODD, [],
                   [[], [(1, 0, 0)], [(2, 0, 0)], [(5, 0, 0)], [(6, 0, 0)], [(9, 0, 0)]])

    def test_marks_and_keys_take_no_room(self):
        items = [mark("a"), key("k" * 20), mark("b"), word("v" * 4), key("k"), key("l"), word("w" * 5)]
        self.check([para(*items)], PLAIN, [], [[], [(1, 0, 0), (1, 0, 5)]])

    def test_references_have_both_texts_and_their_given_room(self):
        book = [para(ref("p", "(", "),"), word("a"), ref("p"), word("b")), plates(95, "p")]
        self.check(book, PLAIN, [1, 1], [[], [(1, 0, 0), (1, 0, 5), (1, 0, 7), (1, 0, 9)], [(2, 0, 0)]])
        self.check(book, PLAIN, [3, 1], [[], [(1, 0, 0), (1, 0, 7), (1, 0, 9), (1, 1, 0)], [(2, 0, 0)]])
        self.check(book, PLAIN, [1, 3], [[], [(1, 0, 0), (1, 0, 5), (1, 0, 7), (1, 1, 0)], [(2, 0, 0)]])
        self.check(book, PLAIN, [3, 3], [[], [(1, 0, 0), (1, 0, 7), (1, 1, 0), (1, 1, 4)], [(2, 0, 0)]])

    def test_references_are_numbered_through_the_paragraphs(self):
        book = [para(ref("p"), word("a")), para(), para(word("b"), ref("p"), ref("p")), plates(95, "p"),
                para(ref("p"), word("c"))]
        self.check(book, PLAIN, [1, 2, 3, 1],
                   [[], [(1, 0, 0), (1, 0, 2)], [], [(1, 1, 0), (1, 1, 2), (1, 1, 5)], [(2, 0, 0)],
                    [(97, 0, 0), (97, 0, 2)]])
        self.check(book, PLAIN, [3, 1, 1, 2],
                   [[], [(1, 0, 0), (1, 0, 4)], [], [(1, 1, 0), (1, 1, 2), (1, 1, 4)], [(2, 0, 0)],
                    [(97, 0, 0), (97, 0, 3)]])

    def test_a_reference_has_no_rows_at_the_foot(self):
        book = [table(["r"] * 3), para(mark("a"), ref("a"), ref("a"))]
        self.check(book, PLAIN, [1, 1], [[], [(1, 0, 0)], [(1, 3, 0), (1, 3, 2)]])

    def test_forty_and_more_figures(self):
        style = (90, 4, True, False)
        book = [plates(MANY, "a"), chapter("One", "b"), plates(MANY, "c"), para(ref("c"), word("w"))]
        self.check(book, style, [41],
                   [[], [(1, 0, 0)], [(10 ** 40 + 1, 0, 0)], [(10 ** 40 + 2, 0, 0)],
                    [(2 * 10 ** 40 + 1, 0, 0), (2 * 10 ** 40 + 1, 0, 42)]])


class ContentsTest(unittest.TestCase):
    def check(self, book, style, told):
        self.assertEqual(laid(book, style, []), told)

    def test_listed_without_chapters_or_headings(self):
        book = [para(word("a")), table(["r"]), plates(1)]
        for style in (LISTED, BOTH):
            self.check(book, style, [[], [(1, 0, 0)], [(1, 1, 0)], [(2, 0, 0)]])
            self.check([para()], style, [[], []])

    def test_one_row_for_each_then_a_new_chapter(self):
        book = [para(word("a")), heading("H"), chapter("C"), table(["r"]), heading("H")]
        self.check(book, PLAIN, [[], [(1, 0, 0)], [(1, 1, 0)], [(2, 0, 0)], [(2, 1, 0)], [(2, 2, 0)]])
        rows = [(1, 0, 0), (1, 1, 0), (1, 2, 0)]
        self.check(book, LISTED, [rows, [(2, 0, 0)], [(2, 1, 0)], [(3, 0, 0)], [(3, 1, 0)], [(3, 2, 0)]])
        self.check(book, BOTH, [rows, [(3, 0, 0)], [(3, 1, 0)], [(5, 0, 0)], [(5, 1, 0)], [(5, 2, 0)]])

    def test_a_chapter_straight_behind_the_contents(self):
        self.check([chapter("C")], LISTED, [[(1, 0, 0)], [(2, 0, 0)]])
        self.check([chapter("C")], BOTH, [[(1, 0, 0)], [(3, 0, 0)]])

    def test_a_heading_alone_is_listed_too(self):
        self.check([heading("H", 3)], LISTED, [[(1, 0, 0)], [(2, 0, 0)]])

    def test_contents_of_more_than_a_page(self):
        book = [heading("H")] * 5
        rows = [(1, 0, 0), (1, 1, 0), (1, 2, 0), (1, 3, 0), (2, 0, 0)]
        set_from_three = [[(3, line, 0)] for line in range(4)] + [[(4, 0, 0)]]
        self.check(book, LISTED, [rows] + set_from_three)
        self.check(book, BOTH, [rows] + set_from_three)

    def test_contents_of_just_a_page(self):
        book = [heading("H")] * 4
        rows = [(1, line, 0) for line in range(4)]
        self.check(book, LISTED, [rows] + [[(2, line, 0)] for line in range(4)])
        self.check(book, BOTH, [rows] + [[(3, line, 0)] for line in range(4)])

    def test_not_listed(self):
        for style in (PLAIN, ODD):
            self.check([chapter("C"), heading("H")], style, [[], [(1, 0, 0)], [(1, 1, 0)]])


class PagesOfTest(unittest.TestCase):
    def check(self, book, style, rooms, told):
        pages = pages_of(book, style, rooms)
        self.assertEqual(list(pages.items()), told)

    def test_no_labels(self):
        self.check([], PLAIN, [], [])
        self.check([chapter("One"), heading("Two"), table(["r"]), plates(3), para(key("k"), word("w"))],
                   PLAIN, [], [])

    def test_each_kind_of_block(self):
        book = [chapter("One", "z"), heading("Two", 3, "b"), table(["r"] * 4, "y"), plates(7, "a"),
                plates(1, "x")]
        self.check(book, PLAIN, [], [("z", 1), ("b", 2), ("y", 3), ("a", 4), ("x", 11)])
        self.check(book, BOTH, [], [("z", 3), ("b", 4), ("y", 5), ("a", 6), ("x", 13)])

    def test_in_the_order_in_which_they_stand(self):
        book = [para(mark("m"), mark("c"), word("w")), table(["r"], "z"), para(mark("a"), word("w")),
                heading("H", 0, "b")]
        self.check(book, PLAIN, [], [("m", 1), ("c", 1), ("z", 1), ("a", 1), ("b", 1)])

    def test_several_marks_and_keys_with_one_word(self):
        book = [table(["r"] * 3),
                para(word("v" * 10), mark("b"), key("k"), mark("a"), key("k"), mark("c"), word("w"),
                     mark("d"), word("w"))]
        self.check(book, PLAIN, [], [("b", 2), ("a", 2), ("c", 2), ("d", 2)])

    def test_a_marks_page_is_that_of_its_own_word(self):
        long = "w" * 10
        book = [table(["r"] * 2),
                para(mark("a"), word(long), mark("b"), word(long), mark("c"), word(long), key("k"),
                     word(long), word(long), mark("d"), word(long), word(long, "n"), mark("e"), word("w"))]
        self.check(book, PLAIN, [], [("a", 1), ("b", 1), ("c", 2), ("d", 2), ("e", 3)])

    def test_a_mark_with_a_reference(self):
        book = [table(["r"] * 3), para(word("w" * 8), mark("z"), ref("z"), mark("y"), word("w"))]
        self.check(book, PLAIN, [1], [("z", 1), ("y", 2)])
        self.check(book, PLAIN, [2], [("z", 2), ("y", 2)])

    def test_plates_are_told_by_the_first_of_them(self):
        self.check([para(word("w")), plates(5, "a"), plates(5, "b")], PLAIN, [], [("a", 2), ("b", 7)])

    def test_forty_and_more_figures(self):
        book = [plates(MANY, "a"), plates(MANY, "b"), chapter("One", "c")]
        self.check(book, ODD, [], [("a", 1), ("b", 10 ** 40), ("c", 2 * 10 ** 40 - 1)])


class MadeBooksTest(unittest.TestCase):
    """Many books, each with several rooms."""

    def each(self):
        for book, style, maker in made_books(400):
            room = most_room(book, style)
            count = len(refs(book))
            for rooms in ([1] * count, [room] * count, maker.make_rooms(count, room)):
                yield book, style, rooms

    def test_as_counted_by_free_rows(self):
        for book, style, rooms in self.each():
            self.assertEqual(laid(book, style, rooms), reckoned(book, style, rooms), (book, style, rooms))

    def test_labels_stand_where_their_things_are_laid(self):
        for book, style, rooms in self.each():
            pages = pages_of(book, style, rooms)
            self.assertEqual(list(pages), labels_of(book))
            for block, places in zip(book, reckoned(book, style, rooms)[1:]):
                self.check_block(block, places, pages)

    def check_block(self, block, places, pages):
        if block[0] != "para":
            if block[-1] != "":
                self.assertEqual(pages[block[-1]], places[0][0])
            return
        left = list(places)
        for item in block[1]:
            if item[0] == "mark":
                self.assertEqual(pages[item[1]], left[0][0])
            elif item[0] != "key":
                left.pop(0)

    def test_no_page_has_more_figures_than_the_room(self):
        for book, style, rooms in self.each():
            for places in laid(book, style, rooms):
                for place in places:
                    self.assertLessEqual(place[0], most_pages(book, style))
                    self.assertLessEqual(figures(place[0]), most_room(book, style))

    def test_with_more_room_nothing_stands_earlier(self):
        for book, style, maker in made_books(400):
            room = most_room(book, style)
            less = maker.make_rooms(len(refs(book)), room)
            for number in range(len(less)):
                for given in range(less[number] + 1, room + 1):
                    more = less[:number] + [given] + less[number + 1:]
                    self.check_no_earlier(book, style, less, more)
            self.check_no_earlier(book, style, less, [room] * len(less))
            self.check_no_earlier(book, style, [1] * len(less), less)

    def check_no_earlier(self, book, style, less, more):
        for ones, others in zip(laid(book, style, less), laid(book, style, more), strict=True):
            for one, other in zip(ones, others, strict=True):
                self.assertLessEqual(one, other, (book, style, less, more))
        before, behind = pages_of(book, style, less), pages_of(book, style, more)
        for label in before:
            self.assertLessEqual(before[label], behind[label], (book, style, less, more))


if __name__ == "__main__":
    unittest.main()
