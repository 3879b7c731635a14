"""[22]: the contents and the keys."""

import unittest

from helper import (chapter, edge_books, heading, items_with_places, key, made_books, mark, para, plates,
                    reckoned, ref, table, word)
from leastbook.least import greatest, least
from leastbook.lists import contents, keyed

PLAIN = (10, 4, False, False)
ODD = (10, 4, True, False)
LISTED = (10, 4, False, True)
BOTH = (10, 4, True, True)
STYLES = (PLAIN, ODD, LISTED, BOTH)
MANY = 10 ** 40 - 1


def pushed_book():
    """Where the reference has a second figure, the heading that it tells goes from page 9 to 10."""
    return [plates(8), table(["r"] * 2), para(word("w" * 8), ref("a")), heading("H", 0, "a"),
            para(key("k"), word("w"))]


class ContentsTest(unittest.TestCase):
    def test_books_without_titles(self):
        for book in ([], [para()], [plates(2, "a")], [table(["r"]), para(word("w"))]):
            for style in STYLES:
                self.assertEqual(contents(book, style), [])

    def test_chapters_and_headings_in_their_order(self):
        book = [heading("Z"), chapter("B"), para(word("w")), heading("A", 2), chapter("B"), plates(3), heading("Z")]
        self.assertEqual(contents(book, PLAIN), [("Z", 1), ("B", 2), ("A", 3), ("B", 4), ("Z", 8)])

    def test_whether_listed_or_not(self):
        book = [chapter("One"), heading("Two"), chapter("Three")]
        self.assertEqual(contents(book, PLAIN), [("One", 1), ("Two", 1), ("Three", 2)])
        self.assertEqual(contents(book, ODD), [("One", 1), ("Two", 1), ("Three", 3)])
        wider = (14, 4, False, True)
        self.assertEqual(contents(book, wider), [("One", 2), ("Two", 2), ("Three", 3)])
        wider = (14, 4, True, True)
        self.assertEqual(contents(book, wider), [("One", 3), ("Two", 3), ("Three", 5)])

    def test_titles_with_blanks(self):
        self.assertEqual(contents([chapter("a  b c")], PLAIN), [("a  b c", 1)])

    def test_pages_of_forty_figures(self):
        self.assertEqual(contents([plates(MANY), heading("H"), chapter("C")], ODD),
                         [("H", 10 ** 40), ("C", 10 ** 40 + 1)])

    def test_with_the_least_rooms(self):
        book = pushed_book()
        self.assertEqual((least(book, PLAIN), greatest(book, PLAIN)), ([1], [2]))
        self.assertEqual(contents(book, PLAIN), [("H", 9)])


class KeyedTest(unittest.TestCase):
    def test_books_without_keys(self):
        for book in ([], [para()], [plates(2, "a")], [chapter("C"), para(mark("m"), word("w"))]):
            for style in STYLES:
                self.assertEqual(keyed(book, style), [])

    def test_several_keys_with_one_word(self):
        book = [para(key("b"), key("a"), mark("m"), key("c"), word("w"))]
        self.assertEqual(keyed(book, PLAIN), [("a", [1]), ("b", [1]), ("c", [1])])

    def test_one_key_with_several_words_on_one_page(self):
        book = [para(key("k"), key("k"), word("w"), key("k"), word("w")), para(key("k"), ref("a")),
                plates(1, "a")]
        self.assertEqual(keyed(book, PLAIN), [("k", [1])])

    def test_one_key_with_words_on_several_pages(self):
        wide = "w" * 10
        book = [para(key("k"), word("w")), plates(7), para(key("k"), word(wide), key("k"), word(wide), word(wide),
                                                         word(wide), key("k"), word(wide)),
                chapter("C"), para(word(wide), key("other"), word(wide), key("k"), word(wide), key("k"), word("w"))]
        self.assertEqual(keyed(book, PLAIN), [("k", [1, 9, 10, 11, 12]), ("other", [11])])

    def test_in_the_order_of_texts(self):
        words = ["b", "a", "B", "ab", "10", "9", "~", "!", "-", "aa", "a-", "Z"]
        items = []
        for text in words:
            items += [key(text), word("w")]
        self.assertEqual(keyed([para(*items)], (90, 4, False, False)), [(text, [1]) for text in sorted(words)])
        self.assertEqual([text for text, pages in keyed([para(*items)], (90, 4, False, False))],
                         ["!", "-", "10", "9", "B", "Z", "a", "a-", "aa", "ab", "b", "~"])

    def test_pages_rise_as_numbers(self):
        book = [para(key("k"), word("w")), plates(7), para(key("k"), word("w")), plates(1), para(key("k"), word("w")),
                plates(88), para(key("k"), word("w")), plates(1), para(key("k"), word("w"))]
        self.assertEqual(keyed(book, PLAIN), [("k", [1, 9, 11, 100, 102])])

    def test_a_key_stands_with_the_word_behind_it(self):
        book = [table(["r"] * 3), para(word("w" * 10), key("k"), mark("m"), word("w"), word("w"))]
        self.assertEqual(keyed(book, PLAIN), [("k", [2])])
        book = [table(["r"] * 3), para(key("k"), word("w" * 10), mark("m"), word("w"), word("w"))]
        self.assertEqual(keyed(book, PLAIN), [("k", [1])])

    def test_keys_wider_than_the_lines(self):
        self.assertEqual(keyed([para(key("k" * 90), word("w"))], PLAIN), [("k" * 90, [1])])

    def test_listed_or_not(self):
        book = [chapter("C"), para(key("k"), word("w"))]
        for style, page in ((PLAIN, 1), (ODD, 1), (LISTED, 2), (BOTH, 3)):
            self.assertEqual(keyed(book, style), [("k", [page])])

    def test_pages_of_forty_figures(self):
        book = [para(key("k"), word("w")), plates(MANY), para(key("k"), word("w"))]
        self.assertEqual(keyed(book, PLAIN), [("k", [1, 10 ** 40 + 1])])

    def test_with_the_least_rooms(self):
        book = [plates(8), table(["r"] * 3), para(word("w" * 8), mark("a"), key("k"), ref("a"))]
        self.assertEqual((least(book, PLAIN), greatest(book, PLAIN)), ([1], [2]))
        self.assertEqual(keyed(book, PLAIN), [("k", [9])])


class MadeBooksTest(unittest.TestCase):
    def each(self):
        for book, style, maker in made_books(300):
            yield book, style
        for book, style in edge_books(100):
            yield book, style

    def test_contents(self):
        for book, style in self.each():
            told = reckoned(book, style, least(book, style))
            wanted = [(block[1], places[0][0]) for block, places in zip(book, told[1:])
                      if block[0] in ("chapter", "heading")]
            self.assertEqual(contents(book, style), wanted, (book, style))

    def test_keys(self):
        for book, style in self.each():
            told = reckoned(book, style, least(book, style))
            found = [(item[1], place[0]) for block, places in zip(book, told[1:]) if block[0] == "para"
                     for item, place in items_with_places(block, places) if item[0] == "key"]
            wanted = [(text, sorted({page for other, page in found if other == text}))
                      for text in sorted({text for text, page in found})]
            self.assertEqual(keyed(book, style), wanted, (book, style))


if __name__ == "__main__":
    unittest.main()
