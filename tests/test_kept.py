"""[2]: nothing that is handed in is changed, and what is told is the asker's own."""

import copy
import unittest

from helper import chapter, heading, key, made_books, mark, para, plates, ref, table, word
from leastbook.books import is_style, look, most_pages, most_room, refs
from leastbook.errors import BookError, NoRow
from leastbook.least import greatest, least, needed, sole
from leastbook.lists import contents, keyed
from leastbook.pages import page_rows
from leastbook.setting import laid, pages_of
from leastbook.texts import read, written

STYLE = (12, 4, True, True)


def full_book():
    return [chapter("One", "one"), para(), heading("Two", 1, "two"),
            para(mark("m"), key("k"), word("w", "note", ""), ref("plate", "p.", ";"), ref("m")),
            table(["a", "b"], "tab"), plates(12, "plate"), para(ref("tab"), word("end"))]


def wrong_books():
    return [[para(word("w", "n")), chapter("T" * 13, "a")], [para(word("w", *["n"] * 4))],
            [plates(1, "a"), table(["r"], "a")], [para(word("w"), mark("a"), key("k"))],
            [para(word("w", "n"), ref("a"))]]


def calls(book, style, rooms):
    return [lambda: is_style(style), lambda: look(book, style), lambda: refs(book),
            lambda: most_pages(book, style), lambda: most_room(book, style),
            lambda: laid(book, style, rooms), lambda: pages_of(book, style, rooms),
            lambda: needed(book, style, rooms), lambda: least(book, style), lambda: greatest(book, style),
            lambda: sole(book, style), lambda: page_rows(book, style), lambda: contents(book, style),
            lambda: keyed(book, style), lambda: written(book)]


def spoil(told):
    if isinstance(told, (list, tuple)):
        for inner in told:
            spoil(inner)
    if isinstance(told, list):
        told.insert(0, "spoilt")
        told.append("spoilt")
    if isinstance(told, dict):
        for label in told:
            told[label] = "spoilt"
        told["spoilt"] = 0


class KeptTest(unittest.TestCase):
    def check_same_behind(self, book, style, rooms):
        before = copy.deepcopy((book, style, rooms))
        for call in calls(book, style, rooms):
            try:
                call()
            except BookError:
                pass
            self.assertEqual((book, style, rooms), before)

    def test_what_is_handed_in_is_the_same_behind_each_call(self):
        self.check_same_behind(full_book(), STYLE, [1, 2, 1])
        self.check_same_behind([], STYLE, [])
        for book, style, maker in made_books(100):
            self.check_same_behind(book, style, [1] * len(refs(book)))

    def test_refused_books_are_the_same_behind_each_call(self):
        for book in wrong_books():
            self.check_same_behind(book, STYLE, [1] * len(refs(book)))
            self.check_same_behind(book, (3, 1, True, True), [1] * len(refs(book)))

    def check_told_is_the_askers_own(self, book, style, rooms):
        before = copy.deepcopy((book, style, rooms))
        for call in calls(book, style, rooms):
            told = call()
            wanted = copy.deepcopy(told)
            spoil(told)
            self.assertEqual((book, style, rooms), before)
            self.assertEqual(call(), wanted)

    def test_changing_what_is_told_changes_no_later_answer(self):
        self.check_told_is_the_askers_own(full_book(), STYLE, [1, 2, 1])
        self.check_told_is_the_askers_own([], STYLE, [])
        self.check_told_is_the_askers_own([para(), para()], (12, 4, False, False), [])
        self.check_told_is_the_askers_own([para(word("w")), para()], STYLE, [])

    def test_told_lists_are_unlike_each_other(self):
        told = laid([para(), para(), para(), plates(1), plates(1)], (12, 4, False, False), [])
        told[0].append("spoilt")
        told[1].append("spoilt")
        told[4].append("spoilt")
        self.assertEqual(told, [["spoilt"], ["spoilt"], [], [], [(1, 0, 0), "spoilt"], [(2, 0, 0)]])

    def test_told_notes_rows_and_keys_are_unlike_each_other(self):
        book = [para(key("a"), key("b"), word("w", "n"), key("c"), word("v")), plates(1), table(["r"])]
        style = (12, 4, False, False)
        told = page_rows(book, style)
        told[0][1].append("spoilt")
        self.assertEqual(told[1], (3, ["r", "", "", ""]))
        told = keyed(book, style)
        told[0][1].append("spoilt")
        self.assertEqual(told[1:], [("b", [1]), ("c", [1])])

    def test_rows_are_the_same_behind_reading(self):
        for rows in (written(full_book()), [], ["para", "word w"], ["para", "word w", "x"], ["table -"],
                     ["table -", "para"], ["note n"]):
            before = list(rows)
            try:
                read(rows)
            except NoRow:
                pass
            self.assertEqual(rows, before)

    def test_a_book_that_is_not_written_is_the_same_behind(self):
        book = [para(word("w", "n"), ref("a", "|"))]
        before = copy.deepcopy(book)
        with self.assertRaises(NoRow):
            written(book)
        self.assertEqual(book, before)

    def test_a_read_book_is_the_readers_own(self):
        rows = written(full_book())
        before = list(rows)
        spoil(read(rows))
        self.assertEqual(rows, before)
        self.assertEqual(read(rows), full_book())

    def test_lists_within_a_read_book_are_unlike_each_other(self):
        book = read(["para", "word v", "word w", "para", "table -", "row r", "table -", "row r"])
        book[0][1][0][2].append("spoilt")
        book[1][1].append("spoilt")
        book[2][1].append("spoilt")
        self.assertEqual(book, [para(word("v", "spoilt"), word("w")), ("para", ["spoilt"]),
                                table(["r", "spoilt"]), table(["r"])])

    def test_a_changed_book_has_its_own_answers(self):
        book, rooms = full_book(), [1, 2, 1]
        for call in calls(book, STYLE, rooms):
            call()
        book[3][1].insert(0, ref("one"))
        book.append(plates(100, "last"))
        rooms.insert(0, 3)
        fresh_book = copy.deepcopy(book)
        for call, fresh in zip(calls(book, STYLE, rooms), calls(fresh_book, STYLE, [3, 1, 2, 1])):
            self.assertEqual(call(), fresh())
        self.assertEqual(refs(book), ["one", "plate", "m", "tab"])
        self.assertEqual(most_room(book, STYLE), 3)
        self.assertIn("last", pages_of(book, STYLE, rooms))

    def test_a_refusal_leaves_nothing_behind(self):
        wanted = [call() for call in calls(full_book(), STYLE, [1, 2, 1])]
        for book in wrong_books():
            with self.assertRaises(BookError):
                look(book, STYLE)
        self.assertEqual([call() for call in calls(full_book(), STYLE, [1, 2, 1])], wanted)


if __name__ == "__main__":
    unittest.main()
