import unittest

from helper import Sheet, all_states
from leastbook.places import (end_line, figures, new_chapter, new_page, no_later, put_block,
                              put_plates, put_word)

PLAIN = (10, 5, False, False)
ODD = (10, 5, True, False)
FAR = 10 ** 49  # a page of fifty figures, even


class FiguresTest(unittest.TestCase):
    def test_small_numbers(self):
        for number, count in ((0, 1), (1, 1), (9, 1), (10, 2), (11, 2), (99, 2), (100, 3), (12345, 5)):
            self.assertEqual(figures(number), count)

    def test_at_each_power_of_ten_and_one_less(self):
        for power in range(1, 60):
            self.assertEqual(figures(10 ** power), power + 1)
            self.assertEqual(figures(10 ** power - 1), power)
            self.assertEqual(figures(10 ** power + 1), power + 1)
        self.assertEqual(figures(10 ** 60 - 1), 60)


class PutWordTest(unittest.TestCase):
    def check(self, state, size, rows, place, behind):
        self.assertEqual(put_word(PLAIN, state, size, rows), (place, behind))

    def test_at_the_beginning_of_a_line(self):
        self.check((1, 0, 0, 0), 3, 0, (1, 0, 0), (1, 0, 3, 0))
        self.check((1, 0, 0, 0), 10, 0, (1, 0, 0), (1, 0, 10, 0))
        self.check((7, 2, 0, 1), 1, 0, (7, 2, 0), (7, 2, 1, 1))

    def test_behind_one_blank_where_it_just_fits(self):
        self.check((1, 0, 3, 0), 6, 0, (1, 0, 4), (1, 0, 10, 0))
        self.check((1, 0, 8, 0), 1, 0, (1, 0, 9), (1, 0, 10, 0))
        self.check((1, 2, 3, 1), 6, 1, (1, 2, 4), (1, 2, 10, 2))

    def test_on_the_next_line_where_the_line_has_no_width(self):
        self.check((1, 0, 3, 0), 7, 0, (1, 1, 0), (1, 1, 7, 0))
        self.check((1, 0, 9, 0), 1, 0, (1, 1, 0), (1, 1, 1, 0))
        self.check((1, 0, 10, 0), 1, 0, (1, 1, 0), (1, 1, 1, 0))
        self.check((1, 1, 3, 1), 7, 1, (1, 2, 0), (1, 2, 7, 2))

    def test_the_last_line_of_the_page(self):
        self.check((1, 4, 0, 0), 3, 0, (1, 4, 0), (1, 4, 3, 0))
        self.check((1, 4, 3, 0), 6, 0, (1, 4, 4), (1, 4, 10, 0))
        self.check((1, 3, 3, 0), 7, 0, (1, 4, 0), (1, 4, 7, 0))
        self.check((1, 4, 3, 0), 7, 0, (2, 0, 0), (2, 0, 7, 0))
        self.check((1, 5, 0, 0), 3, 0, (2, 0, 0), (2, 0, 3, 0))

    def test_the_last_line_above_a_foot(self):
        self.check((1, 2, 0, 2), 3, 0, (1, 2, 0), (1, 2, 3, 2))
        self.check((1, 3, 0, 2), 3, 0, (2, 0, 0), (2, 0, 3, 0))
        self.check((1, 2, 3, 2), 6, 0, (1, 2, 4), (1, 2, 10, 2))
        self.check((1, 1, 3, 2), 7, 0, (1, 2, 0), (1, 2, 7, 2))
        self.check((1, 2, 3, 2), 7, 0, (2, 0, 0), (2, 0, 7, 0))

    def test_rows_that_just_fit_and_that_no_longer_do(self):
        self.check((1, 2, 0, 0), 3, 2, (1, 2, 0), (1, 2, 3, 2))
        self.check((1, 2, 0, 0), 3, 3, (2, 0, 0), (2, 0, 3, 3))
        self.check((1, 2, 3, 0), 3, 2, (1, 2, 4), (1, 2, 7, 2))
        self.check((1, 2, 3, 0), 3, 3, (2, 0, 0), (2, 0, 3, 3))
        self.check((1, 2, 3, 0), 7, 1, (1, 3, 0), (1, 3, 7, 1))
        self.check((1, 2, 3, 0), 7, 2, (2, 0, 0), (2, 0, 7, 2))

    def test_rows_that_just_fit_above_a_foot_and_that_no_longer_do(self):
        self.check((1, 1, 0, 1), 3, 2, (1, 1, 0), (1, 1, 3, 3))
        self.check((1, 1, 0, 1), 3, 3, (2, 0, 0), (2, 0, 3, 3))
        self.check((1, 1, 3, 1), 3, 2, (1, 1, 4), (1, 1, 7, 3))
        self.check((1, 1, 3, 1), 3, 3, (2, 0, 0), (2, 0, 3, 3))
        self.check((1, 1, 3, 1), 7, 1, (1, 2, 0), (1, 2, 7, 2))
        self.check((1, 1, 3, 1), 7, 2, (2, 0, 0), (2, 0, 7, 2))

    def test_a_new_page_takes_the_most_rows(self):
        self.check((1, 0, 0, 0), 10, 4, (1, 0, 0), (1, 0, 10, 4))
        self.check((1, 0, 1, 0), 10, 4, (2, 0, 0), (2, 0, 10, 4))
        self.check((1, 0, 1, 4), 1, 4, (2, 0, 0), (2, 0, 1, 4))
        self.check((1, 0, 0, 5), 1, 0, (2, 0, 0), (2, 0, 1, 0))

    def test_pages_of_fifty_figures(self):
        self.check((FAR, 4, 3, 0), 6, 0, (FAR, 4, 4), (FAR, 4, 10, 0))
        self.check((FAR, 4, 3, 0), 7, 0, (FAR + 1, 0, 0), (FAR + 1, 0, 7, 0))

    def test_every_state_of_small_styles_against_counted_rows(self):
        for style in ((4, 2, False, False), (5, 3, True, True), (4, 4, False, True)):
            for state in all_states(style, 6):
                for size in range(1, style[0] + 1):
                    for rows in range(style[1]):
                        self.check_by_sheet(style, state, size, rows)

    def check_by_sheet(self, style, state, size, rows):
        page, line, used, foot = state
        sheet = Sheet(style)
        sheet.turn(page)
        sheet.begun = [style[0]] * line + ([used] if used > 0 else [])
        sheet.noted = foot
        place = sheet.word(size, rows)
        behind = (sheet.page, len(sheet.begun) - 1, sheet.begun[-1], sheet.noted)
        self.assertEqual(put_word(style, state, size, rows), (place, behind), (style, state, size, rows))


class EndLineTest(unittest.TestCase):
    def test_with_nothing_used_the_state_stays(self):
        for state in ((1, 0, 0, 0), (4, 3, 0, 0), (4, 3, 0, 2), (4, 0, 0, 1), (FAR, 5, 0, 0)):
            self.assertEqual(end_line(state), state)

    def test_with_some_used_the_next_line_begins(self):
        self.assertEqual(end_line((1, 0, 1, 0)), (1, 1, 0, 0))
        self.assertEqual(end_line((4, 2, 10, 2)), (4, 3, 0, 2))
        self.assertEqual(end_line((4, 4, 10, 0)), (4, 5, 0, 0))
        self.assertEqual(end_line((FAR, 1, 5, 1)), (FAR, 2, 0, 1))


class PutBlockTest(unittest.TestCase):
    def check(self, state, rows, keep, place, behind):
        self.assertEqual(put_block(PLAIN, state, rows, keep), (place, behind))

    def test_where_there_is_much_height(self):
        self.check((1, 0, 0, 0), 1, 0, (1, 0, 0), (1, 1, 0, 0))
        self.check((3, 1, 0, 1), 2, 0, (3, 1, 0), (3, 3, 0, 1))

    def test_from_a_begun_line(self):
        self.check((3, 1, 4, 0), 2, 0, (3, 2, 0), (3, 4, 0, 0))
        self.check((3, 1, 4, 1), 2, 0, (3, 2, 0), (3, 4, 0, 1))

    def test_rows_that_just_fit_and_that_no_longer_do(self):
        self.check((1, 2, 0, 0), 3, 0, (1, 2, 0), (1, 5, 0, 0))
        self.check((1, 2, 0, 0), 4, 0, (2, 0, 0), (2, 4, 0, 0))
        self.check((1, 2, 1, 0), 2, 0, (1, 3, 0), (1, 5, 0, 0))
        self.check((1, 2, 1, 0), 3, 0, (2, 0, 0), (2, 3, 0, 0))
        self.check((1, 5, 0, 0), 1, 0, (2, 0, 0), (2, 1, 0, 0))
        self.check((1, 4, 1, 0), 1, 0, (2, 0, 0), (2, 1, 0, 0))

    def test_keep_that_just_fits_and_that_no_longer_does(self):
        self.check((1, 2, 0, 0), 1, 2, (1, 2, 0), (1, 3, 0, 0))
        self.check((1, 2, 0, 0), 1, 3, (2, 0, 0), (2, 1, 0, 0))
        self.check((1, 1, 9, 0), 1, 2, (1, 2, 0), (1, 3, 0, 0))
        self.check((1, 1, 9, 0), 1, 3, (2, 0, 0), (2, 1, 0, 0))

    def test_keep_and_foot_that_just_fit_and_that_no_longer_do(self):
        self.check((1, 1, 0, 1), 2, 1, (1, 1, 0), (1, 3, 0, 1))
        self.check((1, 1, 0, 1), 2, 2, (2, 0, 0), (2, 2, 0, 0))
        self.check((1, 1, 0, 2), 2, 1, (2, 0, 0), (2, 2, 0, 0))
        self.check((1, 1, 0, 1), 3, 1, (2, 0, 0), (2, 3, 0, 0))
        self.check((1, 0, 5, 1), 2, 1, (1, 1, 0), (1, 3, 0, 1))
        self.check((1, 1, 5, 1), 2, 1, (2, 0, 0), (2, 2, 0, 0))

    def test_as_high_as_the_page(self):
        self.check((8, 0, 0, 0), 5, 0, (8, 0, 0), (8, 5, 0, 0))
        self.check((8, 0, 0, 0), 1, 4, (8, 0, 0), (8, 1, 0, 0))
        self.check((8, 0, 0, 1), 5, 0, (9, 0, 0), (9, 5, 0, 0))
        self.check((8, 0, 0, 1), 1, 4, (9, 0, 0), (9, 1, 0, 0))

    def test_pages_of_fifty_figures(self):
        self.check((FAR, 4, 1, 0), 1, 0, (FAR + 1, 0, 0), (FAR + 1, 1, 0, 0))

    def test_every_state_of_small_styles_against_counted_rows(self):
        for style in ((4, 2, False, False), (4, 4, True, True)):
            for state in all_states(style, 6):
                for rows in range(1, style[1] + 1):
                    for keep in range(style[1] - rows + 1):
                        self.check_by_sheet(style, state, rows, keep)

    def check_by_sheet(self, style, state, rows, keep):
        page, line, used, foot = state
        sheet = Sheet(style)
        sheet.turn(page)
        sheet.begun = [style[0]] * (line + (used > 0))
        sheet.noted = foot
        place = sheet.block(rows, keep)
        behind = (sheet.page, len(sheet.begun), 0, sheet.noted)
        self.assertEqual(put_block(style, state, rows, keep), (place, behind), (style, state, rows, keep))


class NewPageTest(unittest.TestCase):
    def test_a_bare_state_stays(self):
        for page in (1, 2, 7, FAR):
            self.assertEqual(new_page((page, 0, 0, 0)), (page, 0, 0, 0))

    def test_any_other_becomes_the_next_pages_bare_one(self):
        for page in (1, 2, 7, FAR):
            for rest in ((1, 0, 0), (0, 1, 0), (0, 0, 1), (2, 3, 1), (5, 0, 0), (0, 0, 5)):
                self.assertEqual(new_page((page,) + rest), (page + 1, 0, 0, 0))


class NewChapterTest(unittest.TestCase):
    def test_where_any_page_will_do(self):
        for page in (1, 2, FAR, FAR + 1):
            self.assertEqual(new_chapter(PLAIN, (page, 0, 0, 0)), (page, 0, 0, 0))
            for rest in ((1, 0, 0), (0, 1, 0), (0, 0, 1)):
                self.assertEqual(new_chapter(PLAIN, (page,) + rest), (page + 1, 0, 0, 0))

    def test_on_odd_pages_from_a_bare_state(self):
        for page, begins in ((1, 1), (2, 3), (3, 3), (FAR, FAR + 1), (FAR + 1, FAR + 1)):
            self.assertEqual(new_chapter(ODD, (page, 0, 0, 0)), (begins, 0, 0, 0))

    def test_on_odd_pages_from_any_other_state(self):
        for page, begins in ((1, 3), (2, 3), (3, 5), (FAR, FAR + 1), (FAR + 1, FAR + 3)):
            for rest in ((1, 0, 0), (0, 1, 0), (0, 0, 1)):
                self.assertEqual(new_chapter(ODD, (page,) + rest), (begins, 0, 0, 0))

    def test_listing_contents_has_no_say_in_it(self):
        self.assertEqual(new_chapter((10, 5, False, True), (2, 0, 0, 0)), (2, 0, 0, 0))
        self.assertEqual(new_chapter((10, 5, True, True), (2, 0, 0, 0)), (3, 0, 0, 0))


class PutPlatesTest(unittest.TestCase):
    def test_from_a_bare_state(self):
        self.assertEqual(put_plates((1, 0, 0, 0), 1), ((1, 0, 0), (2, 0, 0, 0)))
        self.assertEqual(put_plates((4, 0, 0, 0), 3), ((4, 0, 0), (7, 0, 0, 0)))

    def test_from_any_other_state(self):
        for rest in ((1, 0, 0), (0, 1, 0), (0, 0, 1), (3, 2, 1)):
            self.assertEqual(put_plates((4,) + rest, 1), ((5, 0, 0), (6, 0, 0, 0)))
            self.assertEqual(put_plates((4,) + rest, 3), ((5, 0, 0), (8, 0, 0, 0)))

    def test_forty_and_more_figures(self):
        many = 10 ** 40 - 1
        self.assertEqual(put_plates((1, 0, 0, 0), many), ((1, 0, 0), (10 ** 40, 0, 0, 0)))
        self.assertEqual(put_plates((1, 0, 3, 0), many), ((2, 0, 0), (10 ** 40 + 1, 0, 0, 0)))
        self.assertEqual(put_plates((FAR, 1, 0, 0), many),
                         ((FAR + 1, 0, 0), (FAR + 10 ** 40, 0, 0, 0)))


class NoLaterTest(unittest.TestCase):
    def check(self, one, other, there, back):
        self.assertIs(no_later(one, other), there)
        self.assertIs(no_later(other, one), back)

    def test_a_state_and_itself(self):
        self.check((3, 2, 4, 1), (3, 2, 4, 1), True, True)
        self.check((FAR, 0, 0, 0), (FAR, 0, 0, 0), True, True)

    def test_the_page_goes_ahead_of_all(self):
        self.check((2, 4, 9, 1), (3, 0, 0, 0), True, False)
        self.check((2, 0, 0, 0), (3, 4, 9, 1), True, False)
        self.check((9, 0, 0, 0), (10, 0, 0, 0), True, False)
        self.check((FAR, 4, 9, 1), (FAR + 1, 0, 0, 0), True, False)

    def test_line_then_used(self):
        self.check((3, 1, 2, 0), (3, 2, 2, 0), True, False)
        self.check((3, 1, 2, 0), (3, 1, 3, 0), True, False)

    def test_a_lesser_line_with_more_used(self):
        self.check((3, 1, 9, 0), (3, 2, 0, 0), True, False)
        self.check((3, 1, 9, 1), (3, 2, 1, 1), True, False)

    def test_foot_must_be_no_greater_too(self):
        self.check((3, 1, 2, 0), (3, 1, 2, 1), True, False)
        self.check((3, 1, 2, 1), (3, 2, 2, 1), True, False)
        self.check((3, 1, 2, 0), (3, 2, 0, 1), True, False)

    def test_neither_is_no_later(self):
        self.check((3, 1, 2, 1), (3, 2, 2, 0), False, False)
        self.check((3, 1, 2, 1), (3, 1, 3, 0), False, False)
        self.check((3, 1, 9, 1), (3, 2, 0, 0), False, False)


if __name__ == "__main__":
    unittest.main()
