import inspect
import unittest

from leastbook import books, least, lists, pages, places, setting, texts

ARGUMENTS = [
    (places.figures, ["number"]),
    (places.put_word, ["style", "state", "size", "rows"]),
    (places.end_line, ["state"]),
    (places.put_block, ["style", "state", "rows", "keep"]),
    (places.new_page, ["state"]),
    (places.new_chapter, ["style", "state"]),
    (places.put_plates, ["state", "many"]),
    (places.no_later, ["one", "other"]),
    (books.is_style, ["style"]),
    (books.look, ["book", "style"]),
    (books.refs, ["book"]),
    (books.most_pages, ["book", "style"]),
    (books.most_room, ["book", "style"]),
    (setting.laid, ["book", "style", "rooms"]),
    (setting.pages_of, ["book", "style", "rooms"]),
    (least.needed, ["book", "style", "rooms"]),
    (least.least, ["book", "style"]),
    (least.greatest, ["book", "style"]),
    (least.sole, ["book", "style"]),
    (pages.page_rows, ["book", "style"]),
    (lists.contents, ["book", "style"]),
    (lists.keyed, ["book", "style"]),
    (texts.written, ["book"]),
    (texts.read, ["rows"]),
]

STYLE = (10, 4, True, True)
STATE = (3, 1, 4, 1)
BOOK = [("chapter", "One", "a"), ("para", [("key", "k"), ("word", "w", ["n"]), ("ref", "a", "", "")]),
        ("heading", "H", 0, ""), ("table", ["r"], ""), ("plates", 2, "p")]


def is_whole(value):
    return type(value) is int


def is_tuple_of(value, length):
    return type(value) is tuple and len(value) == length and all(is_whole(part) for part in value)


class InterfaceTest(unittest.TestCase):
    def test_arguments_stand_as_told(self):
        for function, names in ARGUMENTS:
            with self.subTest(function=function.__name__):
                self.assertEqual(list(inspect.signature(function).parameters), names)

    def test_states_are_tuples_of_four_whole_numbers(self):
        for state in (STATE, (3, 1, 0, 0), (4, 0, 0, 0)):
            told = [places.end_line(state), places.new_page(state), places.new_chapter(STYLE, state)]
            for answer in told:
                self.assertTrue(is_tuple_of(answer, 4), answer)

    def test_put_tells_a_tuple_of_place_and_state(self):
        told = [places.put_word(STYLE, STATE, size, rows) for size in (1, 10) for rows in (0, 3)]
        told += [places.put_block(STYLE, STATE, rows, 0) for rows in (1, 4)]
        told += [places.put_plates(STATE, 2)]
        for answer in told:
            self.assertIs(type(answer), tuple)
            self.assertEqual(len(answer), 2)
            self.assertTrue(is_tuple_of(answer[0], 3), answer)
            self.assertTrue(is_tuple_of(answer[1], 4), answer)

    def test_truths_are_true_or_false(self):
        self.assertIs(places.no_later(STATE, STATE), True)
        self.assertIs(places.no_later((4, 0, 0, 0), STATE), False)
        self.assertIs(places.no_later((2, 0, 0, 0), STATE), True)
        self.assertIs(places.no_later((3, 1, 4, 2), STATE), False)
        self.assertIs(books.is_style(STYLE), True)
        self.assertIs(books.is_style((3, 4, True, True)), False)
        self.assertIs(books.is_style((10, 1, True, True)), False)

    def test_numbers_are_whole(self):
        for answer in (places.figures(0), places.figures(10 ** 59),
                       books.most_pages(BOOK, STYLE), books.most_room(BOOK, STYLE)):
            self.assertTrue(is_whole(answer), answer)

    def test_look_tells_none(self):
        self.assertIsNone(books.look(BOOK, STYLE))
        self.assertIsNone(books.look([], STYLE))

    def test_lists_and_dicts(self):
        self.assertIs(type(books.refs(BOOK)), list)
        told = setting.laid(BOOK, STYLE, [1])
        self.assertIs(type(told), list)
        for inner in told:
            self.assertIs(type(inner), list)
            for place in inner:
                self.assertTrue(is_tuple_of(place, 3), place)
        told = setting.pages_of(BOOK, STYLE, [1])
        self.assertIs(type(told), dict)
        self.assertTrue(all(type(label) is str and is_whole(page) for label, page in told.items()))

    def test_rooms_are_lists_of_whole_numbers(self):
        for told in (least.needed(BOOK, STYLE, [1]), least.least(BOOK, STYLE), least.greatest(BOOK, STYLE)):
            self.assertIs(type(told), list)
            self.assertTrue(all(is_whole(room) for room in told))
        self.assertIs(least.sole(BOOK, STYLE), True)
        self.assertIs(least.sole([], STYLE), True)

    def check_pairs(self, told, first):
        self.assertIs(type(told), list)
        self.assertTrue(told)
        for pair in told:
            self.assertIs(type(pair), tuple)
            self.assertEqual(len(pair), 2)
            self.assertIs(type(pair[0]), first)

    def test_pages_and_lists_are_lists_of_pairs(self):
        told = pages.page_rows(BOOK, STYLE)
        self.check_pairs(told, int)
        for page, rows in told:
            self.assertIs(type(rows), list)
            self.assertTrue(all(type(row) is str for row in rows))
        told = lists.contents(BOOK, STYLE)
        self.check_pairs(told, str)
        self.assertTrue(all(is_whole(page) for title, page in told))
        told = lists.keyed(BOOK, STYLE)
        self.check_pairs(told, str)
        for key, key_pages in told:
            self.assertIs(type(key_pages), list)
            self.assertTrue(all(is_whole(page) for page in key_pages))

    def check_kinds(self, one, other):
        self.assertIs(type(one), type(other))
        if type(one) in (list, tuple):
            for part, part_other in zip(one, other, strict=True):
                self.check_kinds(part, part_other)

    def test_written_and_read(self):
        rows = texts.written(BOOK)
        self.assertIs(type(rows), list)
        self.assertTrue(all(type(row) is str for row in rows))
        self.check_kinds(texts.read(rows), BOOK)


if __name__ == "__main__":
    unittest.main()
