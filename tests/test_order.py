"""[10]: whatever is done to two states leaves them in their order."""

import unittest

from helper import all_states
from leastbook.places import (end_line, new_chapter, new_page, no_later, put_block, put_plates,
                              put_word)


def ordered(style):
    """All pairs on one page, or on a page and one of the two behind it, that are in order."""
    here = all_states(style, 2)
    behind = all_states(style, 3) + all_states(style, 4)
    pairs = [(one, other) for one in here for other in here if told_order(one, other)]
    return pairs + [(one, other) for one in here for other in behind]


def told_order(one, other):
    return one[:3] <= other[:3] and one[3] <= other[3]


class OrderTest(unittest.TestCase):
    STYLES = ((4, 2, True, False), (4, 3, False, False))

    def check_put(self, one, other, told):
        self.assertTrue(no_later(one[1], other[1]), told)
        self.assertLessEqual(one[0], other[0], told)

    def test_pairs_are_told_to_be_in_order(self):
        for style in self.STYLES:
            for one, other in ordered(style):
                self.assertIs(no_later(one, other), True, (one, other))
                self.assertIs(no_later(other, one), one == other, (one, other))

    def test_words(self):
        for style in self.STYLES:
            width, height = style[0], style[1]
            sizes = [(less, more) for more in range(1, width + 1) for less in range(1, more + 1)]
            for one, other in ordered(style):
                for rows in range(height):
                    ones = [put_word(style, one, size, rows) for size in range(1, width + 1)]
                    others = [put_word(style, other, size, rows) for size in range(1, width + 1)]
                    for less, more in sizes:
                        self.check_put(ones[less - 1], others[more - 1], (one, other, less, more, rows))

    def test_line_ends_and_new_pages_and_chapters(self):
        for style in self.STYLES:
            plain = (style[0], style[1], not style[2], style[3])
            for one, other in ordered(style):
                self.assertTrue(no_later(end_line(one), end_line(other)), (one, other))
                self.assertTrue(no_later(new_page(one), new_page(other)), (one, other))
                for asked in (style, plain):
                    self.assertTrue(no_later(new_chapter(asked, one), new_chapter(asked, other)),
                                    (asked, one, other))

    def test_blocks_and_plates(self):
        for style in self.STYLES:
            height = style[1]
            for one, other in ordered(style):
                for many in (1, 2, 10 ** 40):
                    self.check_put(put_plates(one, many), put_plates(other, many), (one, other, many))
                for rows in range(1, height + 1):
                    for keep in range(height - rows + 1):
                        self.check_put(put_block(style, one, rows, keep),
                                       put_block(style, other, rows, keep), (one, other, rows, keep))


if __name__ == "__main__":
    unittest.main()
