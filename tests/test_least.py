"""[18], [19]: what references ought to have, the least and the greatest rooms."""

import unittest

from helper import (all_rooms, chapter, edge_books, heading, made_books, mark, ought, para, plates, ref,
                    right_and_enough, table, word)
from leastbook.books import most_room, refs
from leastbook.least import greatest, least, needed, sole
from leastbook.setting import pages_of

PLAIN = (10, 2, False, False)
WIDE = (90, 2, False, False)
ODD = (90, 2, True, False)
MANY = 10 ** 40 - 1


def self_reference(pages_ahead):
    """A reference to itself, at the end of a page's last line, where one figure just has room."""
    return [plates(pages_ahead), table(["r"]), para(word("w" * 8), mark("a"), ref("a"))]


def name(number):
    return "n" + chr(ord("a") + number // 26) + chr(ord("a") + number % 26)


def lines_chain(many, first, near="", far=""):
    """So many references on page 8, and so many words on page 9, both of so many lines. Each reference
    that has two figures takes a line more, and pushes one word more to page 10: the one that the next
    reference tells. The first reference tells the label first."""
    labels = [first] + [name(number) for number in range(1, many)]
    told, words = [], []
    for label in labels:
        told += [word("w" * 8), ref(label)]
    for number in range(many, 0, -1):
        words += [mark(name(number)), word("x" * 10)]
    return [plates(7, near), para(*told), para(*words), table(["r"], far)]


def pages_chain(links, first):
    """At the end of page 9, 99, 999 and so on two references, of which the second goes to the next page only
    where the one ahead of it has a figure more; the first one at the next power of ten tells that one's page.
    Odd chapters leave all that is behind where it is. "near" is on page 1, "far" on page 11."""
    book = [plates(8, "near")]
    for link in range(1, links + 1):
        label, room = (first, 1) if link == 1 else (name(link - 1), link - 1)
        book.append(para(word("v" * 90), word("w" * (87 - room)), ref(label), mark(name(link)), ref("near")))
        power = 10 ** link
        book += [chapter("C", "far" if link == 1 else ""), plates(9 * power - 3)]
    return book


def with_ones(rooms):
    """Behind each room that of a reference of one figure."""
    return [room for first in rooms for room in (first, 1)]


class NeededTest(unittest.TestCase):
    def check(self, book, style, rooms, wanted):
        self.assertEqual(needed(book, style, rooms), wanted)
        self.assertEqual(ought(book, style, rooms), wanted)

    def test_no_references(self):
        for book in ([], [para()], [plates(3, "a")], [para(mark("a"), word("w"))]):
            self.check(book, PLAIN, [], [])

    def test_below_and_at_each_power_of_ten(self):
        for power in range(1, 40):
            for pages, count in ((10 ** power - 2, power), (10 ** power - 1, power + 1)):
                book = [plates(pages), para(mark("a"), ref("a"))]
                for room in (1, power, power + 1):
                    if room <= most_room(book, WIDE):
                        self.check(book, WIDE, [room], [count])

    def test_in_the_order_of_the_references(self):
        book = [para(ref("c"), ref("a")), plates(9, "a"), plates(95, "b"), plates(1, "c"),
                para(ref("b"), ref("a"), ref("c"))]
        for rooms in ([1] * 5, [3] * 5, [1, 2, 3, 2, 1]):
            self.check(book, WIDE, rooms, [3, 1, 2, 1, 3])

    def test_hangs_on_the_given_rooms(self):
        book = self_reference(8)
        self.check(book, PLAIN, [1], [1])
        self.check(book, PLAIN, [2], [2])
        book = [plates(8), table(["r"]), para(ref("b"), word("w" * 6), mark("a"), word("x"), mark("b"), ref("a"))]
        self.check(book, PLAIN, [1, 1], [2, 1])
        self.check(book, PLAIN, [2, 1], [2, 2])
        self.check(book, PLAIN, [1, 2], [2, 1])
        self.check(book, PLAIN, [2, 2], [2, 2])

    def test_made_books(self):
        for book, style, maker in made_books(200):
            for rooms in [maker.make_rooms(len(refs(book)), most_room(book, style)) for time in range(3)]:
                self.assertEqual(needed(book, style, rooms), ought(book, style, rooms), (book, style, rooms))


class LeastTest(unittest.TestCase):
    def check(self, book, style, lowest, highest):
        self.assertEqual(least(book, style), lowest)
        self.assertEqual(greatest(book, style), highest)
        self.assertIs(sole(book, style), lowest == highest)

    def test_no_references(self):
        for book in ([], [para()], [plates(3), plates(MANY)], [chapter("One", "a"), heading("Two", 1, "b")]):
            self.check(book, WIDE, [], [])

    def test_below_and_at_each_power_of_ten(self):
        for power in range(1, 40):
            for pages, count in ((10 ** power - 2, power), (10 ** power - 1, power + 1)):
                book = [para(ref("a", "p.", ";"), ref("b")), plates(pages - 1, "b"), para(mark("a"), ref("a"))]
                self.check(book, WIDE, [count, 1, count], [count, 1, count])

    def test_a_reference_to_itself_that_has_two_right_rooms(self):
        for power in range(1, 7):
            book = [plates(10 ** power - 2), table(["r"]), para(word("w" * (9 - power)), mark("a"), ref("a"))]
            self.check(book, PLAIN, [power], [power + 1])

    def test_a_reference_to_itself_that_has_but_one(self):
        self.check(self_reference(7), PLAIN, [1], [1])
        self.check(self_reference(9), PLAIN, [2], [2])
        self.check([plates(8), para(word("w" * 8), mark("a"), ref("a"))], PLAIN, [1], [1])
        self.check([plates(8), table(["r"]), para(word("w" * 9), mark("a"), ref("a"))], PLAIN, [2], [2])

    def test_unlike_in_some_references_alone(self):
        book = [para(ref("z"), ref("b"))] + self_reference(7) + [plates(90, "b"), plates(1, "z"), para(ref("a"))]
        self.check(book, PLAIN, [3, 2, 1, 1], [3, 2, 2, 2])

    def test_four_right_rooms(self):
        book = self_reference(8) + [chapter("C"), plates(87), table(["r"]), para(word("w" * 7), mark("b"), ref("b"))]
        style = (10, 2, True, False)
        right, enough = right_and_enough(book, style, 2, 3)
        self.assertEqual(right, [[1, 2], [1, 3], [2, 2], [2, 3]])
        self.check(book, style, [1, 2], [2, 3])

    def test_a_chain_from_line_to_line(self):
        for many in (2, 3, 30, 60):
            style = (10, many, False, False)
            ones, twos = [1] * many, [2] * many
            self.check(lines_chain(many, name(many)), style, ones, twos)
            self.check(lines_chain(many, "far", far="far"), style, twos, twos)
            self.check(lines_chain(many, "near", near="near"), style, ones, [1] + twos[1:])

    def test_a_chain_over_powers_of_ten(self):
        for links in (1, 2, 3, 26):
            small = with_ones([1] + list(range(1, links)))
            great = with_ones([2] + list(range(2, links + 1)))
            self.check(pages_chain(links, "near"), ODD, small, small)
            self.check(pages_chain(links, name(1)), ODD, small, great)
            self.check(pages_chain(links, "far"), ODD, great, great)

    def test_chains_keep_to_the_bounds_of_a_book(self):
        for book in (lines_chain(60, "far", far="far"), pages_chain(26, "far")):
            self.assertLessEqual(len(book), 80)
            self.assertLessEqual(sum(len(block[1]) for block in book if block[0] == "para"), 240)


class EveryRoomTest(unittest.TestCase):
    """Small books, each with every list of rooms from 1 to the room."""

    def check(self, book, style):
        count, room = len(refs(book)), most_room(book, style)
        right, enough = right_and_enough(book, style, count, room)
        lowest, highest = least(book, style), greatest(book, style)
        told = (book, style)
        self.assertIn(lowest, right, told)
        self.assertIn(highest, right, told)
        for rooms in enough:
            self.assertTrue(all(one <= other for one, other in zip(lowest, rooms)), told)
        for rooms in right:
            self.assertTrue(all(one >= other for one, other in zip(highest, rooms)), told)
        self.assertIs(sole(book, style), len(right) == 1, told)
        for rooms in all_rooms(count, room):
            self.assertEqual(needed(book, style, rooms) == rooms, rooms in right, told)
        return len(right) > 1

    def test_books_near_powers_of_ten(self):
        unlike, gone_through, late = 0, 0, 0
        for book, style in edge_books(500):
            count, room = len(refs(book)), most_room(book, style)
            if room ** count <= 250:
                gone_through += 1
                unlike += self.check(book, style)
                first = needed(book, style, [1] * count)
                late += first != [1] * count and first != least(book, style)
        # Were the books all easy ones, little would be tried.
        self.assertGreater(gone_through, 300)
        self.assertGreater(unlike, 5)
        self.assertGreater(late, 5)

    def test_made_books(self):
        for book, style, maker in made_books(200):
            if most_room(book, style) ** len(refs(book)) <= 250:
                self.check(book, style)


class RightTest(unittest.TestCase):
    """Books of more references than can be gone through."""

    def test_least_and_greatest_are_right(self):
        for book, style in edge_books(300):
            lowest, highest = least(book, style), greatest(book, style)
            for rooms in (lowest, highest):
                self.assertEqual(ought(book, style, rooms), rooms)
                pages = pages_of(book, style, rooms)
                self.assertEqual([len(str(pages[label])) for label in refs(book)], rooms)
            self.assertTrue(all(one <= other for one, other in zip(lowest, highest)))


if __name__ == "__main__":
    unittest.main()
