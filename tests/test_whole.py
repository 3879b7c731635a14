"""[3], over the whole program: books are right, the least and the greatest, and their pages tell just them."""

import unittest

from helper import (chapter, edge_books, heading, made_books, mark, para, plates, reckoned, ref,
                    right_and_enough, set_items, table, word)
from leastbook.books import most_room, refs
from leastbook.least import greatest, least, sole
from leastbook.lists import contents
from leastbook.pages import page_rows
from leastbook.setting import laid, pages_of


def flat(told):
    return [place for places in told for place in places]


def each():
    for book, style, maker in made_books(250):
        yield book, style
    for book, style in edge_books(250):
        yield book, style


def small_books():
    for book, style in each():
        if most_room(book, style) ** len(refs(book)) <= 250:
            yield book, style


def read_texts(book, style, pages):
    """What the rows, read one behind the other, ought to be: each thing by itself."""
    texts = []
    if style[3]:
        for block in book:
            if block[0] in ("chapter", "heading"):
                texts.append(block[1])
    for block in book:
        if block[0] in ("chapter", "heading"):
            texts.append(block[1])
        elif block[0] == "table":
            texts += block[1]
        elif block[0] == "para":
            for item in set_items(block):
                texts.append(item[1] if item[0] == "word" else item[2] + str(pages[item[1]]) + item[3])
    return texts


class WholeTest(unittest.TestCase):
    def test_lines_and_pages_keep_to_the_style(self):
        for book, style in each():
            for page, rows in page_rows(book, style):
                self.assertEqual(len(rows), style[1])
                self.assertTrue(all(len(row) <= style[0] for row in rows))

    def test_each_reference_is_written_as_the_page_of_its_thing(self):
        for book, style in each():
            rooms = least(book, style)
            pages = pages_of(book, style, rooms)
            rows_of = dict(page_rows(book, style))
            for block, places in zip(book, laid(book, style, rooms)[1:]):
                if block[0] == "para":
                    for item, place in zip(set_items(block), places, strict=True):
                        if item[0] == "ref":
                            text = f"{item[2]}{pages[item[1]]}{item[3]}"
                            line = rows_of[place[0]][place[1]]
                            self.assertEqual(line[place[2]:place[2] + len(text)], text, (book, style))
                            self.assertIn(line[place[2] + len(text):][:1], ("", " "), (book, style))

    def test_nothing_is_earlier_with_any_rooms_that_are_enough(self):
        for book, style in small_books():
            right, enough = right_and_enough(book, style, len(refs(book)), most_room(book, style))
            told = flat(laid(book, style, least(book, style)))
            for rooms in enough:
                for one, other in zip(told, flat(reckoned(book, style, rooms)), strict=True):
                    self.assertLessEqual(one, other, (book, style, rooms))

    def test_nothing_is_later_in_any_right_book_than_in_the_greatest(self):
        several = 0
        for book, style in small_books():
            right, enough = right_and_enough(book, style, len(refs(book)), most_room(book, style))
            several += len(right) > 1
            told = flat(laid(book, style, greatest(book, style)))
            for rooms in right:
                for one, other in zip(flat(reckoned(book, style, rooms)), told, strict=True):
                    self.assertLessEqual(one, other, (book, style, rooms))
            self.assertIs(sole(book, style), len(right) == 1, (book, style))
        self.assertGreater(several, 2)

    def test_rows_read_one_behind_the_other_are_the_books_words(self):
        for book, style in each():
            pages = pages_of(book, style, least(book, style))
            wanted = " ".join(read_texts(book, style, pages)).split()
            listed = len(contents(book, style)) if style[3] else 0
            words = []
            for page, rows in page_rows(book, style):
                for row in rows:
                    if listed > 0 and row != "":
                        # A row of contents: its dots and page are held elsewhere.
                        row, listed = row.split(" ")[0], listed - 1
                    if row != "note":
                        words += row.split()
            self.assertEqual(words, wanted, (book, style))

    def test_notes_are_told_just_once_and_with_their_words(self):
        for book, style in each():
            wanted = []
            for block, places in zip(book, laid(book, style, least(book, style))[1:]):
                if block[0] == "para":
                    for item, place in zip(set_items(block), places, strict=True):
                        wanted += [place[0]] * len(item[2]) if item[0] == "word" else []
            told = [page for page, rows in page_rows(book, style) for row in rows if row == "note"]
            self.assertEqual(told, wanted, (book, style))


class OneBookTest(unittest.TestCase):
    """One book, by hand, through all that tells of it."""

    STYLE = (16, 4, True, True)
    BOOK = [chapter("Rivers", "rivers"),
            para(word("See"), ref("delta", "p.", ","), mark("source"), word("springs", "A note.")),
            heading("Fords", 1, "fords"), table(["deep   3", "wide  40"]), plates(4, "delta"),
            chapter("Seas"), para(ref("source"), ref("fords"), ref("delta", "", "."))]

    def test_rooms(self):
        self.assertEqual(least(self.BOOK, self.STYLE), [1, 1, 1, 1])
        self.assertTrue(sole(self.BOOK, self.STYLE))

    def test_pages(self):
        self.assertEqual(pages_of(self.BOOK, self.STYLE, [1] * 4),
                         {"rivers": 3, "source": 3, "fords": 4, "delta": 5})
        self.assertEqual(page_rows(self.BOOK, self.STYLE), [
            (1, ["Rivers ....... 3", "Fords ........ 4", "Seas ......... 9", ""]),
            (3, ["Rivers", "See p.5, springs", "", "A note."]),
            (4, ["Fords", "deep   3", "wide  40", ""]),
            (9, ["Seas", "3 4 5.", "", ""])])


if __name__ == "__main__":
    unittest.main()
