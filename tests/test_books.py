import unittest

from helper import chapter, heading, key, made_books, mark, para, plates, ref, table, word
from leastbook.books import is_style, most_pages, most_room, refs
from leastbook.places import figures

PLAIN = (20, 6, False, False)
LISTED = (20, 6, False, True)


class IsStyleTest(unittest.TestCase):
    def test_widths(self):
        for width in (4, 5, 47, 89, 90):
            self.assertIs(is_style((width, 10, False, False)), True)
        for width in (3, 91, 0, 1, -1, -4, -90, 900, 10 ** 59, -10 ** 59):
            self.assertIs(is_style((width, 10, False, False)), False)

    def test_heights(self):
        for height in (2, 3, 31, 59, 60):
            self.assertIs(is_style((10, height, False, False)), True)
        for height in (1, 61, 0, -1, -2, -60, 600, 10 ** 59, -10 ** 59):
            self.assertIs(is_style((10, height, False, False)), False)

    def test_both_at_their_bounds_with_either_truth(self):
        for odd in (True, False):
            for listed in (True, False):
                self.assertIs(is_style((4, 2, odd, listed)), True)
                self.assertIs(is_style((90, 60, odd, listed)), True)
                self.assertIs(is_style((4, 60, odd, listed)), True)
                self.assertIs(is_style((90, 2, odd, listed)), True)
                self.assertIs(is_style((3, 1, odd, listed)), False)
                self.assertIs(is_style((91, 61, odd, listed)), False)
                self.assertIs(is_style((60, 90, odd, listed)), False)


class RefsTest(unittest.TestCase):
    def test_no_references(self):
        self.assertEqual(refs([]), [])
        self.assertEqual(refs([para(), chapter("ref", "a"), para(word("ref"), mark("b"), word("b"))]), [])

    def test_in_their_order_and_as_often_as_they_stand(self):
        book = [para(ref("z"), word("w"), ref("a", "p.", ";")), table(["row"], "a"),
                para(), para(mark("m"), ref("z", "(", ")")), plates(1, "z"), para(ref("m"))]
        self.assertEqual(refs(book), ["z", "a", "z", "m"])

    def test_labels_that_nothing_has_are_told_too(self):
        self.assertEqual(refs([para(ref("nowhere"))]), ["nowhere"])


class MostPagesTest(unittest.TestCase):
    def check(self, book, plain, listed):
        self.assertEqual(most_pages(book, PLAIN), plain)
        self.assertEqual(most_pages(book, LISTED), listed)
        self.assertEqual(most_pages(book, (20, 6, True, False)), plain)
        self.assertEqual(most_pages(book, (20, 6, True, True)), listed)

    def test_no_block(self):
        self.check([], 3, 3)

    def test_each_kind_of_block(self):
        self.check([chapter("One")], 5, 7)
        self.check([heading("One", 2)], 5, 7)
        self.check([table(["a", "b", "c"])], 5, 5)
        self.check([plates(1)], 6, 6)
        self.check([plates(7)], 12, 12)
        self.check([para()], 5, 5)

    def test_words_and_references_but_no_marks_and_keys(self):
        self.check([para(word("a"), word("b", "note", "note"))], 9, 9)
        self.check([para(mark("a"), key("k"), mark("b"), word("w"), ref("a"))], 9, 9)
        self.check([para(mark("a"), ref("a"), ref("a"), ref("a"))], 11, 11)

    def test_all_together(self):
        book = [chapter("One", "one"), para(word("a"), ref("one")), heading("Two"), plates(30),
                table(["r"]), para(), plates(4), chapter("Three"), para(key("k"), word("z"))]
        self.check(book, 3 + 34 + 2 * 9 + 2 * 3, 3 + 34 + 2 * 9 + 2 * 3 + 2 * 3)

    def test_plates_of_forty_figures(self):
        self.check([plates(10 ** 40 - 1), plates(10 ** 40 - 1)], 2 * 10 ** 40 + 5, 2 * 10 ** 40 + 5)


class MostRoomTest(unittest.TestCase):
    def test_at_powers_of_ten_and_one_less(self):
        self.assertEqual(most_room([], PLAIN), 1)
        self.assertEqual(most_room([para(), para(), para()], PLAIN), 1)
        for power in range(1, 40):
            self.assertEqual(most_room([plates(10 ** power - 5)], PLAIN), power + 1)
            self.assertEqual(most_room([plates(10 ** power - 6)], PLAIN), power)

    def test_listed_contents_may_give_one_more(self):
        book = [chapter("One"), para(word("w"))]
        self.assertEqual((most_pages(book, PLAIN), most_room(book, PLAIN)), (9, 1))
        self.assertEqual((most_pages(book, LISTED), most_room(book, LISTED)), (11, 2))

    def test_is_the_figures_of_most_pages(self):
        for book, style, maker in made_books(100):
            self.assertEqual(most_room(book, style), figures(most_pages(book, style)))


if __name__ == "__main__":
    unittest.main()
