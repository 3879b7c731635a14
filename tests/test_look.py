import unittest

from helper import chapter, heading, key, mark, para, plates, ref, table, word
from leastbook.books import look, most_pages, most_room, refs
from leastbook.errors import BookError, Loose, NoLabel, NoStyle, TooHigh, TooWide, Twice
from leastbook.least import greatest, least, needed, sole
from leastbook.lists import contents, keyed
from leastbook.pages import page_rows
from leastbook.setting import laid, pages_of

PLAIN = (10, 4, False, False)
LISTED = (10, 4, False, True)
WIDE = (90, 4, False, False)
WIDE_LISTED = (90, 4, False, True)


def ask_laid(book, style):
    return laid(book, style, [1] * len(refs(book)))


def ask_pages_of(book, style):
    return pages_of(book, style, [1] * len(refs(book)))


def ask_needed(book, style):
    return needed(book, style, [1] * len(refs(book)))


ASKED = [look, most_pages, most_room, ask_laid, ask_pages_of, ask_needed, least, greatest, sole, page_rows,
         contents, keyed]


class LookCase(unittest.TestCase):
    def check(self, book, refusal, block, style=PLAIN):
        for ask in ASKED:
            with self.subTest(ask=ask.__name__, book=book, style=style):
                with self.assertRaises(BookError) as caught:
                    ask(book, style)
                self.assertIs(type(caught.exception), refusal)
                if refusal is not NoStyle:
                    self.assertEqual(caught.exception.block, block)

    def let_by(self, book, style=PLAIN):
        for ask in ASKED:
            with self.subTest(ask=ask.__name__, book=book, style=style):
                ask(book, style)


class NoStyleTest(LookCase):
    def test_widths_and_heights_outside_their_bounds(self):
        for size in (3, 91, 0, -1, -10, 10 ** 59, -10 ** 59):
            self.check([], NoStyle, None, (size, 4, False, False))
            self.check([], NoStyle, None, (size, 4, True, True))
        for size in (1, 61, 0, -1, -10, 10 ** 59, -10 ** 59):
            self.check([], NoStyle, None, (10, size, False, False))
            self.check([], NoStyle, None, (10, size, True, True))

    def test_at_their_bounds(self):
        for width in (4, 90):
            for height in (2, 60):
                self.let_by([], (width, height, True, True))
                self.let_by([para(word("w"))], (width, height, False, False))

    def test_ahead_of_all(self):
        wrongs = [[chapter("T" * 91)], [table(["r"] * 61)], [plates(1, "a"), plates(1, "a")],
                  [para(mark("a"))], [para(ref("a"))]]
        for book in wrongs:
            self.check(book, NoStyle, None, (3, 4, False, False))
            self.check(book, NoStyle, None, (10, 61, False, True))
            self.check(book, NoStyle, None, (0, 0, True, True))


class LetByTest(LookCase):
    def test_books_without_a_fault(self):
        self.let_by([])
        self.let_by([para()])
        self.let_by([para(), para(), chapter("One"), chapter("One"), plates(1), plates(1)])
        self.let_by([para(ref("c")), chapter("One", "c"), heading("Two", 1, "h"), table([""], "t"),
                     plates(3, "p"), para(mark("m"), mark("n"), key("k"), word("w"), ref("n"))])

    def test_bounds_of_a_book_refuse_nothing(self):
        self.let_by([para()] * 81)
        self.let_by([para(*[word("w")] * 241)])


class TooWideTest(LookCase):
    def test_titles_at_the_width(self):
        for titled in (chapter, heading):
            self.let_by([titled("T" * 10)])
            self.check([titled("T" * 11)], TooWide, 0)
            self.let_by([titled("T" * 90)], WIDE)
            self.check([titled("T" * 91)], TooWide, 0, WIDE)

    def test_titles_at_the_width_less_two_and_the_room(self):
        for titled in (chapter, heading):
            self.let_by([titled("T" * 7)], LISTED)
            self.check([titled("T" * 8)], TooWide, 0, LISTED)
            self.let_by([titled("T" * 7), para()], LISTED)
            self.check([titled("T" * 7), para(word("w"))], TooWide, 0, LISTED)
            self.let_by([titled("T" * 6), para(word("w"))], LISTED)
            self.check([titled("T" * 10)], TooWide, 0, LISTED)
            self.check([titled("T" * 11)], TooWide, 0, LISTED)

    def test_titles_beside_a_room_of_forty_figures(self):
        for titled in (chapter, heading):
            self.let_by([titled("T" * 48), plates(10 ** 39)], WIDE_LISTED)
            self.check([titled("T" * 49), plates(10 ** 39)], TooWide, 0, WIDE_LISTED)
            self.let_by([titled("T" * 49), plates(10 ** 39 - 10)], WIDE_LISTED)
            self.check([titled("T" * 49), plates(10 ** 39 - 9)], TooWide, 0, WIDE_LISTED)
            self.let_by([titled("T" * 90), plates(10 ** 39)], WIDE)
            self.check([titled("T"), plates(10 ** 39)], TooWide, 0, LISTED)

    def test_a_title_where_no_sign_has_room(self):
        narrow = (4, 2, True, True)
        self.let_by([heading("T")], narrow)
        self.check([heading("TT")], TooWide, 0, narrow)
        self.check([heading("T"), plates(1)], TooWide, 0, narrow)

    def test_rows_of_tables(self):
        for style in (PLAIN, LISTED):
            self.let_by([table(["r" * 10, "", " " * 10])], style)
            self.check([table(["r" * 11])], TooWide, 0, style)
            self.check([table(["r", " " * 11, "r"])], TooWide, 0, style)
            self.check([para(), table(["", "r", "r" * 11])], TooWide, 1, style)

    def test_words_and_notes(self):
        for style in (PLAIN, LISTED):
            self.let_by([para(word("w" * 10, "n" * 10, ""))], style)
            self.check([para(word("w" * 11))], TooWide, 0, style)
            self.check([para(word("w", "n" * 11))], TooWide, 0, style)
            self.check([para(), para(word("w"), word("w", "n", "", "n" * 11))], TooWide, 1, style)

    def test_keys_may_be_longer(self):
        self.let_by([para(key("k" * 11), word("w"), key("k" * 90), word("w"))])

    def test_references_with_the_room(self):
        self.let_by([para(mark("a"), ref("a", "p" * 9))])
        self.let_by([para(mark("a"), ref("a", "", "p" * 9))])
        self.let_by([para(mark("a"), ref("a", "p" * 4, "q" * 5))])
        self.check([para(mark("a"), ref("a", "p" * 10))], TooWide, 0)
        self.check([para(mark("a"), ref("a", "", "p" * 10))], TooWide, 0)
        self.check([para(mark("a"), ref("a", "p" * 5, "q" * 5))], TooWide, 0)

    def test_references_with_a_room_of_two(self):
        self.let_by([plates(1, "a"), para(ref("a", "p" * 4, "q" * 4)), para()])
        self.check([plates(1, "a"), para(ref("a", "p" * 4, "q" * 5)), para()], TooWide, 1)
        self.let_by([chapter("T", "a"), para(ref("a", "p" * 4, "q" * 5))])
        self.check([chapter("T", "a"), para(ref("a", "p" * 4, "q" * 5))], TooWide, 1, LISTED)

    def test_references_with_a_room_of_forty_figures(self):
        self.let_by([para(ref("a", "p" * 25, "q" * 25)), plates(10 ** 39, "a")], WIDE)
        self.check([para(ref("a", "p" * 25, "q" * 26)), plates(10 ** 39, "a")], TooWide, 0, WIDE)
        self.check([para(), para(ref("a")), plates(10 ** 39, "a")], TooWide, 1)


class TooHighTest(LookCase):
    def test_headings_with_their_keep(self):
        self.let_by([heading("T", 3)])
        self.check([heading("T", 4)], TooHigh, 0)
        self.check([para(), heading("T", 10 ** 40 - 1)], TooHigh, 1)
        self.let_by([heading("T", 59)], (10, 60, False, False))
        self.check([heading("T", 60)], TooHigh, 0, (10, 60, False, False))

    def test_tables(self):
        self.let_by([table(["r"] * 4)])
        self.check([table(["r"] * 5)], TooHigh, 0)
        self.check([para(), para(), table(["r"] * 100)], TooHigh, 2)

    def test_words_with_their_notes(self):
        self.let_by([para(word("w", *["n"] * 3))])
        self.check([para(word("w", *["n"] * 4))], TooHigh, 0)
        self.check([plates(1), para(word("w"), word("w", *[""] * 100))], TooHigh, 1)


class TwiceTest(LookCase):
    def test_two_blocks(self):
        labelled = [chapter("T", "a"), heading("T", 0, "a"), table(["r"], "a"), plates(1, "a")]
        for one in labelled:
            for other in labelled:
                self.check([one, para(), other], Twice, 2)

    def test_a_block_and_a_mark(self):
        self.check([plates(1, "a"), para(mark("a"), word("w"))], Twice, 1)
        self.check([para(mark("a"), word("w")), para(), plates(1, "a")], Twice, 2)

    def test_two_marks(self):
        self.check([para(mark("a"), mark("a"), word("w"))], Twice, 0)
        self.check([para(mark("a"), word("w"), mark("a"), word("w"))], Twice, 0)
        self.check([para(mark("a"), word("w")), para(mark("b"), mark("a"), word("w"))], Twice, 1)

    def test_the_first_of_several(self):
        self.check([plates(1, "a"), plates(1, "b"), plates(1, "b"), plates(1, "a")], Twice, 2)

    def test_lacking_labels_are_not_alike(self):
        self.let_by([chapter("T"), chapter("T"), heading("T"), table(["r"]), table(["r"]), plates(1)])

    def test_keys_titles_words_and_references_are_no_labels(self):
        self.let_by([chapter("a", "a"), heading("a"), table(["a"]),
                     para(key("a"), word("a", "a"), key("a"), ref("a"), ref("a"))])


class LooseTest(LookCase):
    def test_nothing_behind_in_the_paragraph(self):
        self.check([para(mark("a"))], Loose, 0)
        self.check([para(key("k"))], Loose, 0)
        self.check([para(word("w"), mark("a"))], Loose, 0)
        self.check([para(mark("a"), word("w"), key("k"))], Loose, 0)
        self.check([para(mark("a"), ref("a"), mark("b"))], Loose, 0)
        self.check([para(), para(word("w")), para(mark("a"), key("k"), mark("b"))], Loose, 2)

    def test_another_paragraph_does_not_help(self):
        self.check([para(mark("a")), para(word("w"))], Loose, 0)
        self.check([para(word("w")), para(key("k")), para(word("w"))], Loose, 1)

    def test_a_word_or_reference_behind(self):
        self.let_by([para(mark("a"), word("w"), mark("b"), ref("a"))])
        self.let_by([para(key("k"), mark("a"), key("k"), mark("b"), ref("b"), key("k"), word("w"))])


class NoLabelTest(LookCase):
    def test_a_label_that_nothing_has(self):
        self.check([para(ref("a"))], NoLabel, 0)
        self.check([plates(1, "b"), para(word("w"), ref("b"), ref("a"))], NoLabel, 1)
        self.check([para(), para(ref("a")), para(ref("b")), plates(1, "b")], NoLabel, 1)

    def test_the_first_of_several(self):
        self.check([para(), para(ref("a")), para(ref("b"))], NoLabel, 1)

    def test_keys_words_and_titles_are_no_labels(self):
        self.check([chapter("a"), heading("a"), table(["a"]), para(key("a"), word("a")), para(ref("a"))],
                   NoLabel, 4)

    def test_every_kind_of_label_ahead_and_behind(self):
        labelled = [chapter("T", "a"), heading("T", 0, "a"), table(["r"], "a"), plates(1, "a"),
                    para(mark("a"), word("w"))]
        for block in labelled:
            self.let_by([para(ref("a")), block])
            self.let_by([block, para(ref("a"))])
        self.let_by([para(mark("a"), ref("a"))])


class OrderTest(LookCase):
    """Where several refusals are due at once."""

    def test_within_one_block(self):
        first = plates(1, "a")
        self.check([first, chapter("T" * 11, "a")], TooWide, 1)
        self.check([first, heading("T" * 11, 4, "a")], TooWide, 1)
        self.check([first, heading("T" * 10, 4, "a")], TooHigh, 1)
        self.check([first, heading("T" * 10, 3, "a")], Twice, 1)
        self.check([first, table(["r"] * 4 + ["r" * 11], "a")], TooWide, 1)
        self.check([first, table(["r"] * 5, "a")], TooHigh, 1)
        self.check([first, table(["r"] * 4, "a")], Twice, 1)

    def test_within_one_item(self):
        self.check([para(word("w" * 11, *["n"] * 4))], TooWide, 0)
        self.check([para(word("w", "n", "n", "n", "n" * 11))], TooWide, 0)
        self.check([para(ref("a", "p" * 10))], TooWide, 0)
        self.check([plates(1, "a"), para(word("w"), mark("a"))], Twice, 1)

    def test_from_item_to_item(self):
        wide, high = word("w" * 11), word("w", *["n"] * 4)
        self.check([para(high, wide)], TooHigh, 0)
        self.check([para(wide, high)], TooWide, 0)
        self.check([plates(1, "a"), para(mark("a"), wide)], Twice, 1)
        self.check([plates(1, "a"), para(mark("a"), high)], Twice, 1)
        self.check([plates(1, "a"), para(wide, mark("a"), word("w"))], TooWide, 1)
        self.check([plates(1, "a"), para(high, mark("a"), word("w"))], TooHigh, 1)
        self.check([para(high, key("k"))], TooHigh, 0)
        self.check([para(wide, mark("b"))], TooWide, 0)
        self.check([para(mark("b"), wide)], TooWide, 0)
        self.check([plates(1, "a"), para(word("w"), mark("b"), mark("a"))], Loose, 1)
        self.check([plates(1, "a"), para(word("w"), mark("a"), mark("b"))], Twice, 1)
        self.check([plates(1, "a"), para(word("w"), key("k"), mark("a"))], Loose, 1)
        self.check([plates(1, "a"), para(mark("a"), word("w"), key("k"))], Twice, 1)
        self.check([para(mark("b"), word("w"), mark("c"), mark("c"))], Loose, 0)

    def test_from_block_to_block(self):
        wide, high, loose = chapter("T" * 11), table(["r"] * 5), para(mark("c"))
        twice = plates(1, "a")
        wrongs = [(wide, TooWide), (high, TooHigh), (twice, Twice), (loose, Loose)]
        for one, refusal in wrongs:
            for other, other_refusal in wrongs:
                if one is not other:
                    self.check([plates(1, "a"), para(), one, other], refusal, 2)

    def test_no_label_behind_all(self):
        lacking = para(ref("z"))
        self.check([lacking, para(), chapter("T" * 11)], TooWide, 2)
        self.check([lacking, para(), table(["r"] * 5)], TooHigh, 2)
        self.check([lacking, plates(1, "a"), plates(1, "a")], Twice, 2)
        self.check([lacking, para(word("w"), key("k"))], Loose, 1)
        self.check([para(ref("z"), mark("a"))], Loose, 0)
        self.check([para(ref("z"), word("w" * 11))], TooWide, 0)


if __name__ == "__main__":
    unittest.main()
